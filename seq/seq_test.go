package seq_test

import (
	"encoding/binary"
	"math"
	"math/bits"
	"math/rand"
	"reflect"
	"strings"
	"testing"

	"auspex/api"
	"auspex/inst"
	"auspex/seq"
)

// words encodes instructions.
func words(t *testing.T, is ...api.Inst) []uint32 {
	t.Helper()
	var out []uint32
	for _, i := range is {
		w, e := inst.Encode(i)
		if e != api.OK {
			t.Fatalf("no word tells %+v", i)
		}
		out = append(out, w)
	}
	return out
}

func isLoad(op int) bool  { return op >= api.Lb && op <= api.Lhu }
func isStore(op int) bool { return op >= api.Sb && op <= api.Sw }
func isJump(op int) bool  { return op >= api.Jal && op <= api.Bgeu }
func isDiv(op int) bool   { return op >= api.Div && op <= api.Remu }

func size(op int) int {
	switch op {
	case api.Lb, api.Lbu, api.Sb:
		return 1
	case api.Lh, api.Lhu, api.Sh:
		return 2
	case api.Lw, api.Sw:
		return 4
	}
	return 0
}

func truth(is bool) uint32 {
	if is {
		return 1
	}
	return 0
}

// value is what an instruction writes, by an own reckoning; loads have none.
func value(i api.Inst, pc, a, b uint32) uint32 {
	sa, sb := int32(a), int32(b)
	switch i.Op {
	case api.Lui:
		return i.Imm
	case api.Auipc:
		return pc + i.Imm
	case api.Jal, api.Jalr:
		return pc + 4
	case api.Addi:
		return a + i.Imm
	case api.Slti:
		return truth(sa < int32(i.Imm))
	case api.Sltiu:
		return truth(a < i.Imm)
	case api.Xori:
		return a ^ i.Imm
	case api.Ori:
		return a | i.Imm
	case api.Andi:
		return a & i.Imm
	case api.Slli:
		return a << (i.Imm % 32)
	case api.Srli:
		return a >> (i.Imm % 32)
	case api.Srai:
		return uint32(sa >> (i.Imm % 32))
	case api.Add:
		return a + b
	case api.Sub:
		return a - b
	case api.Sll:
		return a << (b % 32)
	case api.Slt:
		return truth(sa < sb)
	case api.Sltu:
		return truth(a < b)
	case api.Xor:
		return a ^ b
	case api.Srl:
		return a >> (b % 32)
	case api.Sra:
		return uint32(sa >> (b % 32))
	case api.Or:
		return a | b
	case api.And:
		return a & b
	case api.Mul:
		return a * b
	case api.Mulh:
		return uint32(int64(sa) * int64(sb) >> 32)
	case api.Mulhsu:
		return uint32(int64(sa) * int64(b) >> 32)
	case api.Mulhu:
		return uint32(uint64(a) * uint64(b) >> 32)
	case api.Div:
		if b == 0 {
			return math.MaxUint32
		}
		return uint32(int64(sa) / int64(sb))
	case api.Divu:
		if b == 0 {
			return math.MaxUint32
		}
		return a / b
	case api.Rem:
		if b == 0 {
			return a
		}
		return uint32(int64(sa) % int64(sb))
	case api.Remu:
		if b == 0 {
			return a
		}
		return a % b
	}
	return 0
}

func target(i api.Inst, pc, a, b uint32) uint32 {
	goes := false
	switch i.Op {
	case api.Jal:
		goes = true
	case api.Jalr:
		return (a + i.Imm) / 2 * 2
	case api.Beq:
		goes = a == b
	case api.Bne:
		goes = a != b
	case api.Blt:
		goes = int32(a) < int32(b)
	case api.Bge:
		goes = int32(a) >= int32(b)
	case api.Bltu:
		goes = a < b
	case api.Bgeu:
		goes = a >= b
	}
	if goes {
		return pc + i.Imm
	}
	return pc + 4
}

func took(op int, a, b uint32) int {
	if op == api.Div || op == api.Rem {
		if int32(a) < 0 {
			a = -a
		}
		if int32(b) < 0 {
			b = -b
		}
	}
	if b == 0 || a < b {
		return 2
	}
	return 3 + bits.Len32(a) - bits.Len32(b)
}

func writes(i api.Inst) int {
	if isStore(i.Op) || i.Op >= api.Beq && i.Op <= api.Bgeu || i.Op >= api.Fence {
		return 0
	}
	return i.Rd
}

// step is the chapter's 'what one instruction does', told again.
func step(prog []uint32, s api.State) (api.State, api.Step) {
	if s.Halt != 0 {
		return s, api.Step{}
	}
	told := api.Step{PC: s.PC, Next: s.PC}
	halt := func(why int) (api.State, api.Step) {
		s.Halt, told.Halt = why, why
		return s, told
	}
	if s.PC%4 != 0 || uint64(s.PC)/4 >= uint64(len(prog)) {
		return halt(api.HFetch)
	}
	i, e := inst.Decode(prog[s.PC/4])
	if e != api.OK {
		return halt(api.HWord)
	}
	if i.Op == api.Ecall {
		return halt(api.HCall)
	}
	if i.Op == api.Ebreak {
		return halt(api.HBreak)
	}
	a, b := s.Regs[i.Rs1], s.Regs[i.Rs2]
	n, mem := size(i.Op), []byte(s.Mem)
	v := value(i, s.PC, a, b)
	if n > 0 {
		told.Addr = a + i.Imm
		if told.Addr%uint32(n) != 0 || uint64(told.Addr)+uint64(n) > uint64(len(mem)) {
			if isStore(i.Op) {
				return halt(api.HStore)
			}
			return halt(api.HLoad)
		}
		told.Size = n
		at := mem[told.Addr:]
		four := make([]byte, 4)
		if isStore(i.Op) {
			binary.LittleEndian.PutUint32(four, b)
			copy(at[:n], four)
			told.Store = true
			told.Value = uint32(uint64(b) % (1 << uint(8*n)))
		} else {
			copy(four, at[:n])
			v = binary.LittleEndian.Uint32(four)
			if i.Op == api.Lb {
				v = uint32(int8(v))
			}
			if i.Op == api.Lh {
				v = uint32(int16(v))
			}
		}
	}
	told.Next = s.PC + 4
	if isJump(i.Op) {
		to := target(i, s.PC, a, b)
		if to%4 != 0 {
			told = api.Step{PC: s.PC, Next: s.PC}
			return halt(api.HJump)
		}
		told.Next = to
	}
	if isDiv(i.Op) {
		told.Took = took(i.Op, a, b)
	}
	if rd := writes(i); rd != 0 {
		told.Rd, told.Value = rd, v
		s.Regs[rd] = v
	}
	s.PC, s.Mem = told.Next, string(mem)
	return s, told
}

// anyInst is an instruction of the op with fields at random that it has room for.
func anyInst(r *rand.Rand, op int) api.Inst {
	i := api.Inst{Op: op, Rd: r.Intn(32), Rs1: r.Intn(32), Rs2: r.Intn(32)}
	switch {
	case op == api.Lui || op == api.Auipc:
		i.Imm = r.Uint32() &^ 4095
	case op == api.Jal:
		i.Imm = uint32(r.Intn(1<<20)-1<<19) * 2
	case op >= api.Beq && op <= api.Bgeu:
		i.Imm = uint32(r.Intn(1<<12)-1<<11) * 2
		if r.Intn(2) == 0 {
			i.Imm &^= 3
		}
	case op >= api.Slli && op <= api.Srai:
		i.Imm = uint32(r.Intn(32))
	case op < api.Slli:
		i.Imm = uint32(r.Intn(1<<12) - 1<<11)
	}
	if op <= api.Jal || op >= api.Fence {
		i.Rs1 = 0
	}
	if op <= api.Jalr || op >= api.Lb && op <= api.Lhu || op >= api.Addi && op <= api.Srai || op >= api.Fence {
		i.Rs2 = 0
	}
	if isStore(op) || op >= api.Beq && op <= api.Bgeu || op >= api.Fence {
		i.Rd = 0
	}
	return i
}

func anyWord(r *rand.Rand) uint32 {
	edges := []uint32{0, 1, 2, 3, 4, 5, 8, 12, 15, 16, 28, 31, 32, 0x7fffffff, 0x80000000, 0xfffffff8, 0xffffffff}
	if r.Intn(3) == 0 {
		return r.Uint32() >> uint(r.Intn(32))
	}
	return edges[r.Intn(len(edges))]
}

func anyState(r *rand.Rand, words int) api.State {
	s := api.State{PC: uint32(r.Intn(words+1)) * 4, Mem: strings.Repeat("x", []int{0, 3, 16, 17, 32, 64}[r.Intn(6)])}
	if r.Intn(8) == 0 {
		s.PC = anyWord(r)
	}
	for k := range s.Regs {
		s.Regs[k] = anyWord(r)
	}
	b := []byte(s.Mem)
	for k := range b {
		b[k] = byte(r.Intn(256))
	}
	s.Mem = string(b)
	return s
}

// P6.1: Value of each op, of numbers at their edges; 0 of an op that there is not.
func TestValue(t *testing.T) {
	r := rand.New(rand.NewSource(8))
	for op := -2; op < 60; op++ {
		for range 400 {
			i := api.Inst{Op: op, Rd: r.Intn(40) - 4, Rs1: r.Intn(40) - 4, Rs2: r.Intn(40) - 4, Imm: anyWord(r)}
			pc, a, b := anyWord(r), anyWord(r), anyWord(r)
			if got, want := seq.Value(i, pc, a, b), value(i, pc, a, b); got != want {
				t.Fatalf("Value(%+v,%x,%x,%x) = %x, not %x", i, pc, a, b, got, want)
			}
		}
	}
}

// P6.1: Target, also where no word can stand, and of what is no jump.
func TestTarget(t *testing.T) {
	r := rand.New(rand.NewSource(9))
	for op := -2; op < 60; op++ {
		for range 400 {
			i := api.Inst{Op: op, Rs1: 1, Rs2: 2, Imm: anyWord(r)}
			pc, a, b := anyWord(r), anyWord(r), anyWord(r)
			if r.Intn(3) == 0 {
				b = a
			}
			got, ok := seq.Target(i, pc, a, b)
			want := target(i, pc, a, b)
			if got != want || ok != (want%4 == 0) {
				t.Fatalf("Target(%+v,%x,%x,%x) = %x, %v; not %x", i, pc, a, b, got, ok, want)
			}
		}
	}
	if to, ok := seq.Target(api.Inst{Op: api.Jal, Imm: 6}, 4, 0, 0); to != 10 || ok {
		t.Errorf("Jal to 10: %d, %v", to, ok)
	}
	if to, ok := seq.Target(api.Inst{Op: api.Jalr, Imm: 1}, 4, 8, 0); to != 8 || !ok {
		t.Errorf("Jalr to 9: %d, %v", to, ok)
	}
}

// P6.2: New.
func TestNew(t *testing.T) {
	for _, m := range []string{"", "abc", strings.Repeat("z", 17), strings.Repeat("z", 300)} {
		s := seq.New([]uint32{1, 2}, m)
		n := 16
		for n < len(m) && n < 256 {
			n *= 2
		}
		want := (m + strings.Repeat("\x00", 256))[:n]
		if s != (api.State{Mem: want}) {
			t.Errorf("New of %q: %+v", m, s)
		}
	}
}

// P6.2: Step of every op, from registers and memories of all kinds, also of those that may not be.
func TestStep(t *testing.T) {
	r := rand.New(rand.NewSource(10))
	for op := api.Lui; op <= api.Ebreak; op++ {
		for range 400 {
			i := anyInst(r, op)
			if size(op) > 0 && r.Intn(3) > 0 {
				i.Imm = uint32(r.Intn(24) - 4)
			}
			prog := words(t, i, i, i)
			if r.Intn(20) == 0 {
				prog[1] = r.Uint32() &^ 3
			}
			s := anyState(r, 3)
			if size(op) > 0 && r.Intn(3) > 0 {
				s.Regs[i.Rs1] = uint32(r.Intn(40))
			}
			if isJump(op) && r.Intn(2) == 0 {
				s.Regs[i.Rs1] = s.Regs[i.Rs2]
			}
			gotS, got := seq.Step(prog, s)
			wantS, want := step(prog, s)
			if got != want || gotS != wantS {
				t.Fatalf("Step of %+v at %+v:\n%+v, %+v, not\n%+v, %+v", i, s, gotS, got, wantS, want)
			}
		}
	}
}

// P6.2: of a run that has halted, by whatever number, nothing is done.
func TestStepHalted(t *testing.T) {
	prog := words(t, api.Inst{Op: api.Addi, Rd: 1, Imm: 5})
	for _, why := range []int{1, 2, 7, 8, -1, math.MinInt, math.MaxInt} {
		s := api.State{Mem: "0123456789abcdef", Halt: why}
		s.Regs[3] = 4
		got, told := seq.Step(prog, s)
		if got != s || told != (api.Step{}) {
			t.Errorf("halt %d: %+v, %+v", why, got, told)
		}
	}
}

// P6.2: why it halts, which of two comes first, and what its step tells.
func TestHalts(t *testing.T) {
	regs := [32]uint32{1: 2, 2: 13, 3: 0xfffffffc}
	for _, x := range []struct {
		name string
		prog []uint32
		want api.Step
	}{
		{"no word", nil, api.Step{Halt: api.HFetch}},
		{"no instruction", []uint32{0}, api.Step{Halt: api.HWord}},
		{"call", []uint32{0x73}, api.Step{Halt: api.HCall}},
		{"break", []uint32{0x00100073}, api.Step{Halt: api.HBreak}},
		{"load beyond", words(t, api.Inst{Op: api.Lw, Rd: 1, Imm: 16}), api.Step{Addr: 16, Halt: api.HLoad}},
		{"load that is no multiple", words(t, api.Inst{Op: api.Lh, Rd: 1, Rs1: 2}), api.Step{Addr: 13, Halt: api.HLoad}},
		{"load at the end of numbers", words(t, api.Inst{Op: api.Lw, Rd: 1, Rs1: 3}), api.Step{Addr: 0xfffffffc, Halt: api.HLoad}},
		{"store beyond", words(t, api.Inst{Op: api.Sb, Rs2: 1, Imm: 16}), api.Step{Addr: 16, Halt: api.HStore}},
		{"store that is no multiple", words(t, api.Inst{Op: api.Sw, Rs1: 1, Rs2: 2}), api.Step{Addr: 2, Halt: api.HStore}},
		{"jump", words(t, api.Inst{Op: api.Jal, Rd: 1, Imm: 2}), api.Step{Halt: api.HJump}},
		{"jump by a register", words(t, api.Inst{Op: api.Jalr, Rd: 1, Rs1: 1}), api.Step{Halt: api.HJump}},
		{"branch", words(t, api.Inst{Op: api.Beq, Imm: 6}), api.Step{Halt: api.HJump}},
	} {
		s := api.State{Regs: regs, Mem: "0123456789abcdef"}
		got, told := seq.Step(x.prog, s)
		if told != x.want {
			t.Errorf("%s: %+v", x.name, told)
		}
		s.Halt = x.want.Halt
		if got != s {
			t.Errorf("%s: the run is %+v", x.name, got)
		}
	}
	if s, told := seq.Step(words(t, api.Inst{Op: api.Fence}), api.State{PC: 2}); told.Halt != api.HFetch || told.Next != 2 || s.PC != 2 {
		t.Errorf("between words: %+v", told)
	}
	if _, told := seq.Step(words(t, api.Inst{Op: api.Bne, Imm: 6}), api.State{}); told != (api.Step{Next: 4}) {
		t.Errorf("branch to nowhere that is not taken: %+v", told)
	}
}

// P6.4: a number in register 0 that is handed in is read, and never written.
func TestRegisterZero(t *testing.T) {
	s := api.State{Mem: "0123456789abcdef", Regs: [32]uint32{0: 7}}
	got, told := seq.Step(words(t, api.Inst{Op: api.Addi, Rd: 1, Imm: 1}), s)
	if got.Regs[1] != 8 || got.Regs[0] != 7 || told.Value != 8 {
		t.Errorf("read: %+v", got)
	}
	for _, i := range []api.Inst{{Op: api.Addi, Imm: 1}, {Op: api.Lb, Imm: 1}, {Op: api.Lui, Imm: 4096}, {Op: api.Jal, Imm: 4}, {Op: api.Mul}} {
		got, told := seq.Step(words(t, i), api.State{Mem: "0123456789abcdef"})
		if got.Regs != [32]uint32{} || told.Value != 0 || told.Rd != 0 {
			t.Errorf("%+v writes %+v", i, told)
		}
	}
}

// aProgram loops over numbers, divides, stores and loads.
func aProgram(t *testing.T) []uint32 {
	return words(t,
		api.Inst{Op: api.Addi, Rd: 1, Imm: 3},
		api.Inst{Op: api.Addi, Rd: 2, Rs1: 2, Imm: 7},
		api.Inst{Op: api.Sw, Rs1: 0, Rs2: 2, Imm: 4},
		api.Inst{Op: api.Lbu, Rd: 3, Rs1: 0, Imm: 4},
		api.Inst{Op: api.Divu, Rd: 4, Rs1: 3, Rs2: 1},
		api.Inst{Op: api.Addi, Rd: 1, Rs1: 1, Imm: 0xffffffff},
		api.Inst{Op: api.Bne, Rs1: 1, Imm: 0xffffffec},
		api.Inst{Op: api.Ebreak})
}

// P6.3, P6.4: Run of n steps is n times Step; gone on with for m it is the run of n + m.
func TestRun(t *testing.T) {
	prog := aProgram(t)
	for n := -2; n < 40; n++ {
		s := api.State{Mem: strings.Repeat("\x00", 16)}
		var want []api.Step
		for k := 0; k < n && s.Halt == 0; k++ {
			var told api.Step
			s, told = step(prog, s)
			want = append(want, told)
		}
		got, steps := seq.Run(prog, "", n)
		if got != s || len(steps) != len(want) || len(want) > 0 && !reflect.DeepEqual(steps, want) {
			t.Fatalf("Run of %d: %+v, %+v", n, got, steps)
		}
	}
	s, steps := seq.Run(prog, "", 1000)
	if s.Halt != api.HBreak || len(steps) != 20 || steps[19].Halt != api.HBreak {
		t.Errorf("the whole: %+v, %d steps", s, len(steps))
	}
	if s.Regs[2] != 21 || s.Regs[4] != 21 || s.Mem[4] != 21 {
		t.Errorf("the whole: %+v", s)
	}
}

// P6.3: never more than 10000 steps, and none of a number below 0.
func TestRunBounds(t *testing.T) {
	loop := []uint32{0x0000006f}
	for _, x := range [][2]int{{math.MinInt, 0}, {-1, 0}, {0, 0}, {1, 1}, {9999, 9999}, {10000, 10000}, {10001, 10000}, {math.MaxInt, 10000}} {
		s, steps := seq.Run(loop, "", x[0])
		if len(steps) != x[1] || s.Halt != 0 || s.PC != 0 {
			t.Errorf("Run of %d: %d steps", x[0], len(steps))
		}
	}
}

func TestExamples(t *testing.T) {
	s, steps := seq.Run([]uint32{0x00500093, 0x00100073}, "", 10)
	if s.Regs[1] != 5 || s.Halt != api.HBreak || s.PC != 4 || len(steps) != 2 {
		t.Errorf("first: %+v, %+v", s, steps)
	}
	if len(steps) == 2 && (steps[0] != (api.Step{Next: 4, Rd: 1, Value: 5}) || steps[1] != (api.Step{PC: 4, Next: 4, Halt: api.HBreak})) {
		t.Errorf("first: %+v", steps)
	}
	s, steps = seq.Run(nil, "", 10)
	if s.Halt != api.HFetch || s.PC != 0 || len(steps) != 1 {
		t.Errorf("none: %+v, %+v", s, steps)
	}
}

// P6.4: register 0 stays 0, the memory as long as it was; bytes that are not read are no matter.
func TestWhatFollows(t *testing.T) {
	r := rand.New(rand.NewSource(11))
	for range 300 {
		var is []api.Inst
		for range 12 {
			i := anyInst(r, api.Lui+r.Intn(api.Fence))
			if isJump(i.Op) {
				i.Imm = uint32(4 * (r.Intn(7) - 2))
			}
			if size(i.Op) > 0 {
				i.Rs1, i.Imm = 0, uint32(r.Intn(16)*4)
			}
			is = append(is, i)
		}
		prog := words(t, is...)
		m := anyState(r, 1).Mem
		read := make([]bool, 256)
		s, steps := seq.Run(prog, m, 60)
		first := seq.New(prog, m)
		if s.Regs[0] != 0 || len(s.Mem) != len(first.Mem) {
			t.Fatalf("register 0 or memory: %+v", s)
		}
		for _, told := range steps {
			for k := 0; k < told.Size && !told.Store; k++ {
				read[int(told.Addr)+k] = true
			}
		}
		other := []byte(first.Mem)
		for k := range other {
			if !read[k] {
				other[k] ^= byte(r.Intn(256))
			}
		}
		again, stepsAgain := seq.Run(prog, string(other), 60)
		if again.Regs != s.Regs || again.PC != s.PC || again.Halt != s.Halt || !reflect.DeepEqual(steps, stepsAgain) {
			t.Fatalf("a byte that is not read tells")
		}
	}
}
