// Package word is layer 1: see shared/doc/01-word.md.
package word

import "auspex/api"

// mask holds the lowest size bits; of 32 the shift leaves 0, and all bits come of it.
func mask(size int) uint32 {
	return uint32(1)<<size - 1
}

// mayBe tells whether a word has a field of so many bits at a place.
func mayBe(at, size int) bool {
	return at >= 0 && at <= 31 && size >= 1 && size <= 32-at
}

// Field is so many bits of a word, from a place on; Set puts them there; Sext continues the highest of so many bits.
func Field(w uint32, at, size int) uint32 {
	if !mayBe(at, size) {
		return 0
	}
	return w >> at & mask(size)
}

func Set(w uint32, at, size int, v uint32) uint32 {
	if !mayBe(at, size) {
		return w
	}
	hole := mask(size) << at
	return w&^hole | v<<at&hole
}

func Sext(w uint32, size int) uint32 {
	if size < 1 || size > 32 {
		return w
	}
	above := 32 - size
	return uint32(int32(w<<above) >> above)
}

// Bytes are a word's lowest bytes, the lowest first; Join makes a word of bytes.
func Bytes(w uint32, size int) (string, api.Errno) {
	if size < 0 || size > 4 {
		return "", api.ErrArg
	}
	out := make([]byte, size)
	for k := range size {
		out[k] = byte(Field(w, 8*k, 8))
	}
	return string(out), api.OK
}

func Join(s string) (uint32, api.Errno) {
	if len(s) > 4 {
		return 0, api.ErrLong
	}
	w := uint32(0)
	for k := range len(s) {
		w = Set(w, 8*k, 8, uint32(s[k]))
	}
	return w, api.OK
}
