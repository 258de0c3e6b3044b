package source_test

import (
	"math"
	"math/rand"
	"slices"
	"testing"

	"auspex/api"
	"auspex/source"
)

func addi(rd int) api.Inst { return api.Inst{Op: api.Addi, Rd: rd, Imm: 5} }

func done(i api.Inst, v uint32) api.Entry { return api.Entry{Inst: i, Is: api.EDone, Value: v} }

func regs() [32]uint32 {
	var r [32]uint32
	for k := range r {
		r[k] = uint32(1000 + k)
	}
	return r
}

var far = []int{math.MinInt, math.MinInt + 1, -2, -1, 0, 1, 2, 3, 4, 5, 6, 7, 100, math.MaxInt}

// P13.1: the last one ahead that writes the register, of any i and any register.
func TestMaker(t *testing.T) {
	rob := []api.Entry{
		{Inst: addi(1)}, {Inst: addi(2)}, {Inst: api.Inst{Op: api.Sw, Rd: 1, Rs2: 1}}, {Inst: addi(1)},
		{Inst: api.Inst{Op: api.Beq, Rd: 2}}, {Inst: api.Inst{Op: api.Ecall, Rd: 2}},
	}
	for _, x := range []struct {
		reg  int
		want []int // by i from 0 to 7
	}{
		{1, []int{-1, 0, 0, 0, 3, 3, 3, 3}}, {2, []int{-1, -1, 1, 1, 1, 1, 1, 1}}, {3, []int{-1, -1, -1, -1, -1, -1, -1, -1}}, {0, []int{-1, -1, -1, -1, -1, -1, -1, -1}},
	} {
		for _, i := range far {
			want := x.want[max(0, min(i, 7))]
			if got := source.Maker(rob, i, x.reg); got != want {
				t.Errorf("Maker(%d, %d) = %d, not %d", i, x.reg, got, want)
			}
		}
	}
	if source.Maker(nil, 5, 1) != -1 || source.Maker(nil, math.MinInt, 1) != -1 {
		t.Error("of no entries")
	}
}

// P13.1: none for registers that are not 1 to 31, even if an entry claims to write there.
func TestMakerOddRegisters(t *testing.T) {
	for _, reg := range []int{math.MinInt, -1, 0, 32, 33, 1 << 32, math.MaxInt} {
		if got := source.Maker([]api.Entry{{Inst: addi(reg)}}, 1, reg); got != -1 {
			t.Errorf("register %d: %d", reg, got)
		}
	}
	for _, reg := range []int{1, 31} {
		if got := source.Maker([]api.Entry{{Inst: addi(reg)}}, 1, reg); got != 0 {
			t.Errorf("register %d: %d", reg, got)
		}
	}
}

// P13.2: Read of register 0, of none, of the registers, and of makers in all states.
func TestRead(t *testing.T) {
	r := regs()
	for _, i := range far {
		if v, ok := source.Read(nil, r, i, 0); v != 0 || !ok {
			t.Errorf("register 0: %d, %v", v, ok)
		}
		for _, reg := range []int{math.MinInt, -1, 32, 33, math.MaxInt} {
			if v, ok := source.Read([]api.Entry{done(addi(reg), 7)}, r, i, reg); v != 0 || ok {
				t.Errorf("register %d: %d, %v", reg, v, ok)
			}
		}
		for _, reg := range []int{1, 30, 31} {
			if v, ok := source.Read([]api.Entry{done(addi(5), 7)}, r, i, reg); v != r[reg] || !ok {
				t.Errorf("register %d of i %d: %d, %v", reg, i, v, ok)
			}
		}
	}
	for _, is := range []int{-1, api.EWait, api.EGoes, api.EBus, api.EDone, 4} {
		for _, halt := range []int{0, api.HLoad, -1, 99} {
			for _, known := range []bool{false, true} {
				e := api.Entry{Inst: addi(3), Is: is, Halt: halt, Value: 77, Known: known, Filled: known}
				v, ok := source.Read([]api.Entry{done(addi(3), 1), e, done(addi(4), 2)}, r, 3, 3)
				there := is == api.EDone && halt == 0
				if ok != there || there && v != 77 || !there && v != 0 {
					t.Errorf("Is %d, Halt %d: %d, %v", is, halt, v, ok)
				}
			}
		}
	}
	if v, ok := source.Read([]api.Entry{done(addi(0), 9)}, r, 1, 0); v != 0 || !ok {
		t.Errorf("a maker of register 0: %d, %v", v, ok)
	}
}

// P13.3: Both, each value by itself.
func TestBoth(t *testing.T) {
	r := regs()
	waits := api.Entry{Inst: addi(1), Value: 9}
	two := api.Entry{Inst: api.Inst{Op: api.Add, Rd: 2, Rs1: 1, Rs2: 3}}
	for _, x := range []struct {
		name string
		rob  []api.Entry
		i    int
		a, b uint32
		ok   bool
	}{
		{"both from registers", []api.Entry{two}, 0, r[1], r[3], true},
		{"the first one made", []api.Entry{done(addi(1), 5), two}, 1, 5, r[3], true},
		{"the first one waited for", []api.Entry{waits, two}, 1, 0, r[3], false},
		{"the second one waited for", []api.Entry{{Inst: addi(3)}, two}, 1, r[1], 0, false},
		{"both waited for", []api.Entry{waits, {Inst: addi(3)}, two}, 2, 0, 0, false},
		{"a maker behind", []api.Entry{two, waits}, 0, r[1], r[3], true},
		{"itself", []api.Entry{{Inst: api.Inst{Op: api.Add, Rd: 1, Rs1: 1, Rs2: 1}}}, 0, r[1], r[1], true},
		{"register 0", []api.Entry{waits, {Inst: addi(2)}}, 1, 0, 0, true},
		{"a register that there is not", []api.Entry{{Inst: api.Inst{Rs1: 32, Rs2: 3}}}, 0, 0, r[3], false},
		{"another one", []api.Entry{{Inst: api.Inst{Rs1: 3, Rs2: -1}}}, 0, r[3], 0, false},
		{"fields count, also where they are not read", []api.Entry{waits, {Inst: api.Inst{Op: api.Lui, Rs1: 1}}}, 1, 0, 0, false},
		{"no entry", []api.Entry{two}, 1, 0, 0, false},
		{"below", []api.Entry{two}, -1, 0, 0, false},
		{"far below", []api.Entry{two}, math.MinInt, 0, 0, false},
		{"far above", []api.Entry{two}, math.MaxInt, 0, 0, false},
		{"none", nil, 0, 0, 0, false},
	} {
		kept := slices.Clone(x.rob)
		if a, b, ok := source.Both(x.rob, r, x.i); a != x.a || b != x.b || ok != x.ok {
			t.Errorf("%s: %d, %d, %v", x.name, a, b, ok)
		}
		if !slices.Equal(x.rob, kept) {
			t.Errorf("%s: the entries are changed", x.name)
		}
	}
}

func TestExamples(t *testing.T) {
	add := api.Entry{Inst: api.Inst{Op: api.Add, Rd: 2, Rs1: 1, Rs2: 1}}
	if a, b, ok := source.Both([]api.Entry{done(addi(1), 5), add}, regs(), 1); a != 5 || b != 5 || !ok {
		t.Errorf("done: %d, %d, %v", a, b, ok)
	}
	if a, b, ok := source.Both([]api.Entry{{Inst: addi(1)}, add}, regs(), 1); a != 0 || b != 0 || ok {
		t.Errorf("waiting: %d, %d, %v", a, b, ok)
	}
}

// P13.4: entries behind are no matter; written to the registers in order, those ahead are none either.
func TestWhatFollows(t *testing.T) {
	r := rand.New(rand.NewSource(19))
	ops := []int{api.Addi, api.Add, api.Lw, api.Sw, api.Beq, api.Jal, api.Lui}
	for range 1000 {
		var rob []api.Entry
		for range 8 {
			i := api.Inst{Op: ops[r.Intn(len(ops))], Rd: r.Intn(5), Rs1: r.Intn(5), Rs2: r.Intn(5)}
			rob = append(rob, api.Entry{Inst: i, Is: api.EDone, Value: r.Uint32()})
		}
		at := r.Intn(8)
		written := regs()
		for _, e := range rob[:at] {
			if rd := e.Inst.Rd; rd > 0 && e.Inst.Op != api.Sw && e.Inst.Op != api.Beq {
				written[rd] = e.Value
			}
		}
		a, b, ok := source.Both(rob, regs(), at)
		if c, d, all := source.Both(rob[:at+1], regs(), at); a != c || b != d || ok != all {
			t.Fatal("entries behind are read")
		}
		if c, d, all := source.Both(rob[at:], written, 0); a != c || b != d || !ok || !all {
			t.Fatalf("%d, %d, not %d, %d", a, b, c, d)
		}
	}
}
