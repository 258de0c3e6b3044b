package inst

import (
	"auspex/api"
	"auspex/word"
)

// part is a field of a word, of size bits from a place on.
type part struct{ at, size int }

// gather is the number that a word's fields make, the first one lowest; spread is the word that has the number there.
func gather(w uint32, parts ...part) uint32 {
	n, at := uint32(0), 0
	for _, p := range parts {
		n = word.Set(n, at, p.size, word.Field(w, p.at, p.size))
		at += p.size
	}
	return n
}

func spread(n uint32, parts ...part) uint32 {
	w, at := uint32(0), 0
	for _, p := range parts {
		w = word.Set(w, p.at, p.size, word.Field(n, at, p.size))
		at += p.size
	}
	return w
}

// rdAt, rs1At and rs2At are where a form has these registers: empty, if it has none.
func rdAt(form int) []part {
	switch form {
	case formS, formB, formWhole:
		return nil
	}
	return []part{{7, 5}}
}

func rs1At(form int) []part {
	switch form {
	case formU, formJ, formWhole:
		return nil
	}
	return []part{{15, 5}}
}

func rs2At(form int) []part {
	switch form {
	case formR, formS, formB:
		return []part{{20, 5}}
	}
	return nil
}

// numberAt is where a form has its number's bits, from bit numberFrom on.
func numberAt(form int) []part {
	switch form {
	case formI:
		return []part{{20, 12}}
	case formShift:
		return []part{{20, 5}}
	case formS:
		return []part{{7, 5}, {25, 7}}
	case formB:
		return []part{{8, 4}, {25, 6}, {7, 1}, {31, 1}}
	case formU:
		return []part{{12, 20}}
	case formJ:
		return []part{{21, 10}, {20, 1}, {12, 8}, {31, 1}}
	}
	return nil
}

func numberFrom(form int) int {
	switch form {
	case formB, formJ:
		return 1
	case formU:
		return 12
	}
	return 0
}

// numberSize is how many bits a form's number has before its sign is continued; 0: it is no signed one.
func numberSize(form int) int {
	switch form {
	case formI, formS:
		return 12
	case formB:
		return 13
	case formJ:
		return 21
	}
	return 0
}

// registers are those that a word's form has; the others stay 0.
func registers(w uint32, form int) api.Inst {
	return api.Inst{
		Rd:  int(gather(w, rdAt(form)...)),
		Rs1: int(gather(w, rs1At(form)...)),
		Rs2: int(gather(w, rs2At(form)...)),
	}
}

func number(w uint32, form int) uint32 {
	n := gather(w, numberAt(form)...) << numberFrom(form)
	return word.Sext(n, numberSize(form))
}
