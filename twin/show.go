package twin

import (
	"strings"

	"auspex/api"
)

// The words of the known programs. The place of the byte that must not be seen is 32.
const (
	one       = 0x00100413 // Addi 8, 0, 1
	large     = 0x800003b7 // Lui 7
	slow      = 0x0283d4b3 // Divu 9, 7, 8: it takes as long as a division may
	skipTwo   = 0x00049663 // Bne 9, 0, over two words: it goes, and is guessed not to
	skipOne   = 0x00049463
	loadByte  = 0x02004283 // Lbu 5, 32(0)
	loadBy    = 0x0002c303 // Lbu 6, 0(5)
	twice     = 0x00528333 // Add 6, 5, 5
	storeByte = 0x02600823 // Sb 6, 48(0)
	stop      = 0x00100073 // Ebreak
)

const (
	showMem    = 128
	showAt     = 32
	showCycles = 200
)

// Show is a known program, its two memories, and a shape: of one of three cases.
func Show(which int) (api.Plan, string, bool) {
	switch which {
	case 0: // the byte is loaded, and used as an address, on the wrong way alone
		return shown(one, large, slow, skipTwo, loadByte, loadBy, stop)
	case 1: // it is loaded on the right way, and used as an address on the wrong one
		return shown(loadByte, one, large, slow, skipOne, loadBy, stop)
	case 2: // it is loaded, reckoned with and stored, and never used as an address
		return shown(loadByte, twice, storeByte, stop)
	}
	return api.Plan{}, "", false
}

// shown is a plan of these words, and a memory in which one byte, the address of another line, is another one.
func shown(words ...uint32) (api.Plan, string, bool) {
	shape := api.Conf{Mode: api.MStrict, Width: 2, Rob: 8, Queue: 4, Stores: 2, Slots: 4, Sets: 2, Ways: 2, Lat: []int{2}}
	memory := func(b byte) string {
		return strings.Repeat("\x00", showAt) + string([]byte{b}) + strings.Repeat("\x00", showMem-showAt-1)
	}
	return api.Plan{Conf: shape, Prog: words, Mem: memory(64), Cycles: showCycles}, memory(96), true
}
