package inst_test

import (
	"math"
	"math/rand"
	"testing"

	"auspex/api"
	"auspex/inst"
)

// known is the document's table, written as the test reads it: what a word must have, and how its parts are taken.
type known struct {
	op         int
	form       byte // R I H(shift) S B U J
	mask, must uint32
	kind, size int
}

const (
	f3  = 7 << 12
	f37 = 0xfe00707f
)

func table() []known {
	row := func(op int, form byte, code, f3at, f7at uint32, kind, size int) known {
		mask := uint32(0x7f)
		switch form {
		case 'I', 'S', 'B':
			mask |= f3
		case 'R', 'H':
			mask = f37
		}
		return known{op, form, mask, code | f3at<<12 | f7at<<25, kind, size}
	}
	return []known{
		row(api.Lui, 'U', 0x37, 0, 0, 0, 0), row(api.Auipc, 'U', 0x17, 0, 0, 0, 0),
		row(api.Jal, 'J', 0x6f, 0, 0, 5, 0), row(api.Jalr, 'I', 0x67, 0, 0, 5, 0),
		row(api.Beq, 'B', 0x63, 0, 0, 5, 0), row(api.Bne, 'B', 0x63, 1, 0, 5, 0),
		row(api.Blt, 'B', 0x63, 4, 0, 5, 0), row(api.Bge, 'B', 0x63, 5, 0, 5, 0),
		row(api.Bltu, 'B', 0x63, 6, 0, 5, 0), row(api.Bgeu, 'B', 0x63, 7, 0, 5, 0),
		row(api.Lb, 'I', 0x03, 0, 0, 3, 1), row(api.Lh, 'I', 0x03, 1, 0, 3, 2),
		row(api.Lw, 'I', 0x03, 2, 0, 3, 4), row(api.Lbu, 'I', 0x03, 4, 0, 3, 1),
		row(api.Lhu, 'I', 0x03, 5, 0, 3, 2),
		row(api.Sb, 'S', 0x23, 0, 0, 4, 1), row(api.Sh, 'S', 0x23, 1, 0, 4, 2), row(api.Sw, 'S', 0x23, 2, 0, 4, 4),
		row(api.Addi, 'I', 0x13, 0, 0, 0, 0), row(api.Slti, 'I', 0x13, 2, 0, 0, 0),
		row(api.Sltiu, 'I', 0x13, 3, 0, 0, 0), row(api.Xori, 'I', 0x13, 4, 0, 0, 0),
		row(api.Ori, 'I', 0x13, 6, 0, 0, 0), row(api.Andi, 'I', 0x13, 7, 0, 0, 0),
		row(api.Slli, 'H', 0x13, 1, 0, 0, 0), row(api.Srli, 'H', 0x13, 5, 0, 0, 0), row(api.Srai, 'H', 0x13, 5, 0x20, 0, 0),
		row(api.Add, 'R', 0x33, 0, 0, 0, 0), row(api.Sub, 'R', 0x33, 0, 0x20, 0, 0),
		row(api.Sll, 'R', 0x33, 1, 0, 0, 0), row(api.Slt, 'R', 0x33, 2, 0, 0, 0), row(api.Sltu, 'R', 0x33, 3, 0, 0, 0),
		row(api.Xor, 'R', 0x33, 4, 0, 0, 0), row(api.Srl, 'R', 0x33, 5, 0, 0, 0), row(api.Sra, 'R', 0x33, 5, 0x20, 0, 0),
		row(api.Or, 'R', 0x33, 6, 0, 0, 0), row(api.And, 'R', 0x33, 7, 0, 0, 0),
		row(api.Mul, 'R', 0x33, 0, 1, 1, 0), row(api.Mulh, 'R', 0x33, 1, 1, 1, 0),
		row(api.Mulhsu, 'R', 0x33, 2, 1, 1, 0), row(api.Mulhu, 'R', 0x33, 3, 1, 1, 0),
		row(api.Div, 'R', 0x33, 4, 1, 2, 0), row(api.Divu, 'R', 0x33, 5, 1, 2, 0),
		row(api.Rem, 'R', 0x33, 6, 1, 2, 0), row(api.Remu, 'R', 0x33, 7, 1, 2, 0),
		{api.Fence, 'W', 0xffffffff, 0x0f, 0, 0}, {api.Ecall, 'W', 0xffffffff, 0x73, 6, 0}, {api.Ebreak, 'W', 0xffffffff, 0x00100073, 6, 0},
	}
}

// reading is what a row makes of a word.
func reading(k known, w uint32) api.Inst {
	rd, rs1, rs2 := int(w>>7&31), int(w>>15&31), int(w>>20&31)
	s := int32(w)
	switch k.form {
	case 'R':
		return api.Inst{Op: k.op, Rd: rd, Rs1: rs1, Rs2: rs2}
	case 'I':
		return api.Inst{Op: k.op, Rd: rd, Rs1: rs1, Imm: uint32(s >> 20)}
	case 'H':
		return api.Inst{Op: k.op, Rd: rd, Rs1: rs1, Imm: uint32(rs2)}
	case 'S':
		return api.Inst{Op: k.op, Rs1: rs1, Rs2: rs2, Imm: uint32(s>>25<<5) | w>>7&31}
	case 'B':
		return api.Inst{Op: k.op, Rs1: rs1, Rs2: rs2, Imm: uint32(s>>31<<12) | w>>7&1<<11 | w>>25&63<<5 | w>>8&15<<1}
	case 'U':
		return api.Inst{Op: k.op, Rd: rd, Imm: w & 0xfffff000}
	case 'J':
		return api.Inst{Op: k.op, Rd: rd, Imm: uint32(s>>31<<20) | w>>12&255<<12 | w>>20&1<<11 | w>>21&1023<<1}
	}
	return api.Inst{Op: k.op}
}

func expected(tab []known, w uint32) (api.Inst, bool) {
	for _, k := range tab {
		if w&k.mask == k.must {
			return reading(k, w), true
		}
	}
	return api.Inst{}, false
}

func checkWord(t *testing.T, tab []known, w uint32) {
	t.Helper()
	want, ok := expected(tab, w)
	got, e := inst.Decode(w)
	if !ok {
		if e != api.ErrInst || got != (api.Inst{}) {
			t.Fatalf("Decode(%08x) = %+v, %d; it is no instruction", w, got, e)
		}
		return
	}
	if e != api.OK || got != want {
		t.Fatalf("Decode(%08x) = %+v, %d; not %+v", w, got, e, want)
	}
	if back, e := inst.Encode(got); e != api.OK || back != w {
		t.Fatalf("Encode(%+v) = %08x, %d; not %08x", got, back, e, w)
	}
}

// P2.1, P2.3: every OP, F3 and F7, with other fields at their edges and at random.
func TestDecodeAll(t *testing.T) {
	tab := table()
	r := rand.New(rand.NewSource(3))
	rest := ^uint32(0xfe00707f)
	for op := uint32(0); op < 128; op++ {
		for a := uint32(0); a < 8; a++ {
			for b := uint32(0); b < 128; b++ {
				w := op | a<<12 | b<<25
				checkWord(t, tab, w)
				checkWord(t, tab, w|rest)
				checkWord(t, tab, w|r.Uint32()&rest)
			}
		}
	}
	for range 200000 {
		k := tab[r.Intn(len(tab))]
		checkWord(t, tab, k.must|r.Uint32()&^k.mask)
	}
}

// P2.1: one bit more or less of a whole word is no longer it.
func TestWholeWords(t *testing.T) {
	tab := table()
	for _, w := range []uint32{0x0000000f, 0x00000073, 0x00100073} {
		checkWord(t, tab, w)
		for k := 0; k < 32; k++ {
			checkWord(t, tab, w^1<<uint(k))
		}
	}
	for _, w := range []uint32{0, 0xffffffff, 0x0ff0000f, 0x00200073, 0x0000100f} {
		if i, e := inst.Decode(w); e != api.ErrInst || i != (api.Inst{}) {
			t.Errorf("Decode(%08x) = %+v, %d", w, i, e)
		}
	}
}

func TestExamples(t *testing.T) {
	for _, x := range []struct {
		w uint32
		i api.Inst
		e api.Errno
	}{
		{0x00500093, api.Inst{Op: api.Addi, Rd: 1, Imm: 5}, api.OK},
		{0xfe000ee3, api.Inst{Op: api.Beq, Imm: 0xfffffffc}, api.OK},
		{0x00000000, api.Inst{}, api.ErrInst},
		{0x40315093, api.Inst{Op: api.Srai, Rd: 1, Rs1: 2, Imm: 3}, api.OK},
		{0xfe112e23, api.Inst{Op: api.Sw, Rs1: 2, Rs2: 1, Imm: 0xfffffffc}, api.OK},
		{0xfffff0b7, api.Inst{Op: api.Lui, Rd: 1, Imm: 0xfffff000}, api.OK},
		{0xffdff06f, api.Inst{Op: api.Jal, Imm: 0xfffffffc}, api.OK},
	} {
		if i, e := inst.Decode(x.w); i != x.i || e != x.e {
			t.Errorf("Decode(%08x) = %+v, %d", x.w, i, e)
		}
		if x.e != api.OK {
			continue
		}
		if w, e := inst.Encode(x.i); w != x.w || e != api.OK {
			t.Errorf("Encode(%+v) = %08x, %d", x.i, w, e)
		}
	}
}

// may tells from the table alone whether an instruction may be.
func may(tab []known, i api.Inst) bool {
	reg := func(n int, has bool) bool { return n == 0 || has && n > 0 && n < 32 }
	signed := func(bits uint, step uint32) bool {
		n := int64(int32(i.Imm))
		return n >= -(1<<(bits-1)) && n < 1<<(bits-1) && i.Imm%step == 0
	}
	for _, k := range tab {
		if k.op != i.Op {
			continue
		}
		rd, rs1, rs2, imm := false, false, false, i.Imm == 0
		switch k.form {
		case 'R':
			rd, rs1, rs2 = true, true, true
		case 'I':
			rd, rs1, imm = true, true, signed(12, 1)
		case 'H':
			rd, rs1, imm = true, true, i.Imm < 32
		case 'S':
			rs1, rs2, imm = true, true, signed(12, 1)
		case 'B':
			rs1, rs2, imm = true, true, signed(13, 2)
		case 'U':
			rd, imm = true, i.Imm%4096 == 0
		case 'J':
			rd, imm = true, signed(21, 2)
		}
		return reg(i.Rd, rd) && reg(i.Rs1, rs1) && reg(i.Rs2, rs2) && imm
	}
	return false
}

// P2.1, P2.3: Encode of instructions that may be and of those that may not.
func TestEncode(t *testing.T) {
	tab := table()
	regs := []int{0, 1, 31, 32, 33, -1, 64, 1 << 32, 1<<32 + 1, math.MinInt, math.MaxInt}
	imms := []uint32{0, 1, 2, 3, 4, 5, 31, 32, 63, 1024, 2046, 2047, 2048, 4094, 4095, 4096, 1 << 19, 1<<20 - 2, 1 << 20, 1<<20 - 1, 0xfff00000, 0xffeffffe, 0xfffff000, 0xffffefff, 0xfffff7ff, 0xfffff800, 0xfffffffe, 0xffffffff, 0x80000000, 0x7ffff000}
	good, bad := 0, 0
	for op := -1; op <= 50; op++ {
		for _, imm := range imms {
			for a, rd := range regs {
				for b, rs1 := range regs {
					for c, rs2 := range regs {
						if a > 2 && b > 2 || b > 2 && c > 2 || a > 2 && c > 2 {
							continue
						}
						i := api.Inst{Op: op, Rd: rd, Rs1: rs1, Rs2: rs2, Imm: imm}
						w, e := inst.Encode(i)
						if !may(tab, i) {
							bad++
							if w != 0 || e != api.ErrArg {
								t.Fatalf("Encode(%+v) = %08x, %d; it may not be", i, w, e)
							}
							continue
						}
						good++
						if e != api.OK {
							t.Fatalf("Encode(%+v): %d; it may be", i, e)
						}
						if back, ok := expected(tab, w); !ok || back != i {
							t.Fatalf("Encode(%+v) = %08x, which is %+v", i, w, back)
						}
					}
				}
			}
		}
	}
	if good < 1000 || bad < 1000 {
		t.Errorf("only %d may be, %d may not", good, bad)
	}
	for _, op := range []int{math.MinInt, math.MaxInt, 1 << 32, 1<<32 + 1, 49, 0} {
		if w, e := inst.Encode(api.Inst{Op: op}); w != 0 || e != api.ErrArg {
			t.Errorf("Encode of op %d: %x, %d", op, w, e)
		}
	}
}

// P2.2: Kind and Size hang on Op alone; Reads and Writes tell the fields as they stand.
func TestKindsAndRegisters(t *testing.T) {
	tab := table()
	for op := -2; op <= 60; op++ {
		kind, size, form := api.KPlain, 0, byte('?')
		for _, k := range tab {
			if k.op == op {
				kind, size, form = k.kind, k.size, k.form
			}
		}
		for _, n := range []int{0, 1, 31, 32, -7, math.MinInt, math.MaxInt} {
			i := api.Inst{Op: op, Rd: n, Rs1: n ^ 5, Rs2: n ^ 9, Imm: uint32(n)}
			if inst.Kind(i) != kind || inst.Size(i) != size {
				t.Errorf("%+v: kind %d, size %d", i, inst.Kind(i), inst.Size(i))
			}
			if a, b := inst.Reads(i); a != n^5 || b != n^9 {
				t.Errorf("Reads(%+v) = %d, %d", i, a, b)
			}
			want := 0
			switch form {
			case 'R', 'I', 'H', 'U', 'J':
				want = n
			}
			if got := inst.Writes(i); got != want {
				t.Errorf("Writes(%+v) = %d", i, got)
			}
		}
	}
	for _, op := range []int{math.MinInt, math.MaxInt} {
		i := api.Inst{Op: op, Rd: 1}
		if inst.Kind(i) != api.KPlain || inst.Size(i) != 0 || inst.Writes(i) != 0 {
			t.Errorf("op %d", op)
		}
	}
}
