package inst

import (
	"auspex/api"
	"auspex/word"
)

// The forms. A shift's number is the one that stands where other forms have Rs2; a whole word has no fields.
const (
	formR = iota
	formI
	formShift
	formS
	formB
	formU
	formJ
	formWhole
)

// The operations (OP) that more than one place asks for.
const (
	codeLoad   = 0x03
	codeNumber = 0x13
	codeAuipc  = 0x17
	codeStore  = 0x23
	codeTwo    = 0x33
	codeLui    = 0x37
	codeBranch = 0x63
	codeJalr   = 0x67
	codeJal    = 0x6f
)

const (
	wordFence  = 0x0000000f
	wordEcall  = 0x00000073
	wordEbreak = 0x00100073
)

// row tells an instruction's form, and the fields by which its words are known.
type row struct {
	op, form     int
	code, f3, f7 uint32
}

// rows are all instructions but the three whole words. A field that a form does not tell by is 0 here.
var rows = [45]row{
	{api.Lui, formU, codeLui, 0, 0},
	{api.Auipc, formU, codeAuipc, 0, 0},
	{api.Jal, formJ, codeJal, 0, 0},
	{api.Jalr, formI, codeJalr, 0, 0},
	{api.Beq, formB, codeBranch, 0, 0},
	{api.Bne, formB, codeBranch, 1, 0},
	{api.Blt, formB, codeBranch, 4, 0},
	{api.Bge, formB, codeBranch, 5, 0},
	{api.Bltu, formB, codeBranch, 6, 0},
	{api.Bgeu, formB, codeBranch, 7, 0},
	{api.Lb, formI, codeLoad, 0, 0},
	{api.Lh, formI, codeLoad, 1, 0},
	{api.Lw, formI, codeLoad, 2, 0},
	{api.Lbu, formI, codeLoad, 4, 0},
	{api.Lhu, formI, codeLoad, 5, 0},
	{api.Sb, formS, codeStore, 0, 0},
	{api.Sh, formS, codeStore, 1, 0},
	{api.Sw, formS, codeStore, 2, 0},
	{api.Addi, formI, codeNumber, 0, 0},
	{api.Slti, formI, codeNumber, 2, 0},
	{api.Sltiu, formI, codeNumber, 3, 0},
	{api.Xori, formI, codeNumber, 4, 0},
	{api.Ori, formI, codeNumber, 6, 0},
	{api.Andi, formI, codeNumber, 7, 0},
	{api.Slli, formShift, codeNumber, 1, 0},
	{api.Srli, formShift, codeNumber, 5, 0},
	{api.Srai, formShift, codeNumber, 5, 0x20},
	{api.Add, formR, codeTwo, 0, 0},
	{api.Sub, formR, codeTwo, 0, 0x20},
	{api.Sll, formR, codeTwo, 1, 0},
	{api.Slt, formR, codeTwo, 2, 0},
	{api.Sltu, formR, codeTwo, 3, 0},
	{api.Xor, formR, codeTwo, 4, 0},
	{api.Srl, formR, codeTwo, 5, 0},
	{api.Sra, formR, codeTwo, 5, 0x20},
	{api.Or, formR, codeTwo, 6, 0},
	{api.And, formR, codeTwo, 7, 0},
	{api.Mul, formR, codeTwo, 0, 1},
	{api.Mulh, formR, codeTwo, 1, 1},
	{api.Mulhsu, formR, codeTwo, 2, 1},
	{api.Mulhu, formR, codeTwo, 3, 1},
	{api.Div, formR, codeTwo, 4, 1},
	{api.Divu, formR, codeTwo, 5, 1},
	{api.Rem, formR, codeTwo, 6, 1},
	{api.Remu, formR, codeTwo, 7, 1},
}

// empty is the row's word with all registers and its number 0; a whole word stands as its code.
func (r row) empty() uint32 {
	return r.code | r.f3<<12 | r.f7<<25
}

func rowOf(op int) (row, bool) {
	switch op {
	case api.Fence:
		return row{op: op, form: formWhole, code: wordFence}, true
	case api.Ecall:
		return row{op: op, form: formWhole, code: wordEcall}, true
	case api.Ebreak:
		return row{op: op, form: formWhole, code: wordEbreak}, true
	}
	for _, r := range rows {
		if r.op == op {
			return r, true
		}
	}
	return row{}, false
}

// chosen is the row of a word's instruction.
func chosen(w uint32) (row, bool) {
	switch w {
	case wordFence:
		return rowOf(api.Fence)
	case wordEcall:
		return rowOf(api.Ecall)
	case wordEbreak:
		return rowOf(api.Ebreak)
	}
	code, f3, f7 := word.Field(w, 0, 7), word.Field(w, 12, 3), word.Field(w, 25, 7)
	switch code {
	case codeLui, codeAuipc, codeJal: // the number goes over F3, and over F7 too
		f3 = 0
		fallthrough
	case codeJalr, codeBranch, codeLoad, codeStore:
		f7 = 0
	case codeNumber:
		if f3 != 1 && f3 != 5 {
			f7 = 0
		}
	}
	for _, r := range rows {
		if r.code == code && r.f3 == f3 && r.f7 == f7 {
			return r, true
		}
	}
	return row{}, false
}
