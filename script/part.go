package script

import (
	"strconv"

	"auspex/api"
)

const (
	hexDigits  = "0123456789abcdef"
	wordDigits = 8
)

func readMode(s string) (int, bool) {
	switch s {
	case "off":
		return api.MOff, true
	case "taint":
		return api.MTaint, true
	case "strict":
		return api.MStrict, true
	}
	return 0, false
}

func writeMode(mode int) string {
	switch mode {
	case api.MTaint:
		return "taint"
	case api.MStrict:
		return "strict"
	}
	return "off"
}

func readTables(s string) (bool, bool) {
	return s == "tables", s == "tables" || s == "tape"
}

func writeTables(tables bool) string {
	if tables {
		return "tables"
	}
	return "tape"
}

// readNumber takes a number only as it is written: no sign, no 0 ahead.
func readNumber(s string) (int, bool) {
	n, err := strconv.Atoi(s)
	return n, err == nil && n >= 0 && strconv.Itoa(n) == s
}

// digit is a hexadecimal digit's number; -1: it is none.
func digit(b byte) int {
	switch {
	case b >= '0' && b <= '9':
		return int(b - '0')
	case b >= 'a' && b <= 'f':
		return int(b-'a') + 10
	}
	return -1
}

func readWord(s string) (uint32, bool) {
	if len(s) != wordDigits {
		return 0, false
	}
	w := uint32(0)
	for k := range len(s) {
		d := digit(s[k])
		if d < 0 {
			return 0, false
		}
		w = w<<4 | uint32(d)
	}
	return w, true
}

func writeWord(w uint32) string {
	out := make([]byte, wordDigits)
	for k := range out {
		out[k] = hexDigits[w>>(28-4*k)&15]
	}
	return string(out)
}

func readBytes(s string) (string, bool) {
	if len(s)%2 != 0 {
		return "", false
	}
	out := make([]byte, 0, len(s)/2)
	for k := 0; k < len(s); k += 2 {
		high, low := digit(s[k]), digit(s[k+1])
		if high < 0 || low < 0 {
			return "", false
		}
		out = append(out, byte(high<<4|low))
	}
	return string(out), true
}

func writeBytes(s string) string {
	out := make([]byte, 0, 2*len(s))
	for k := range len(s) {
		out = append(out, hexDigits[s[k]>>4], hexDigits[s[k]&15])
	}
	return string(out)
}
