package exec_test

import (
	"math"
	"math/rand"
	"strings"
	"testing"

	"auspex/api"
	"auspex/exec"
	"auspex/inst"
	"auspex/seq"
)

var states = []int{-1, api.EWait, api.EGoes, api.EBus, api.EDone, 4}

func isLoad(op int) bool  { return op >= api.Lb && op <= api.Lhu }
func isStore(op int) bool { return op >= api.Sb && op <= api.Sw }
func isJump(op int) bool  { return op >= api.Jal && op <= api.Bgeu }
func isDiv(op int) bool   { return op >= api.Div && op <= api.Remu }
func isMul(op int) bool   { return op >= api.Mul && op <= api.Mulhu }

func size(op int) int {
	return map[int]int{api.Lb: 1, api.Lbu: 1, api.Sb: 1, api.Lh: 2, api.Lhu: 2, api.Sh: 2, api.Lw: 4, api.Sw: 4}[op]
}

func writes(i api.Inst) int {
	if i.Op < api.Lui || isStore(i.Op) || i.Op >= api.Beq && i.Op <= api.Bgeu || i.Op >= api.Fence {
		return 0
	}
	return i.Rd
}

// full is an entry in which every field that a call may leave alone has a number of its own.
func full(op, rd, is int) api.Entry {
	return api.Entry{No: 41, PC: 40, Inst: api.Inst{Op: op, Rd: rd, Rs1: 2, Rs2: 3, Imm: 8}, Guess: 4242, Is: is, Left: 17, Value: 18, Next: 19, Addr: 20, Took: 22, Filled: true}
}

// P18.1: Start of each op, in each state, whatever its Halt.
func TestStart(t *testing.T) {
	for op := -1; op < 60; op++ {
		for _, is := range states {
			for _, rd := range []int{0, 1, 31, 40, -2} {
				for _, halt := range []int{0, api.HCall, 99} {
					for _, b := range []uint32{0, 3, 100, 0xffffffff} {
						e := full(op, rd, is)
						e.Halt = halt
						a := uint32(100)
						got := exec.Start(e, a, b)
						want := e
						if is == api.EWait && !isLoad(op) && !isStore(op) {
							want.Is, want.Left, want.Next = api.EGoes, 1, 44
							want.Value = 0
							if writes(e.Inst) != 0 {
								want.Value = seq.Value(e.Inst, 40, a, b)
							}
							if isMul(op) {
								want.Left = 3
							}
							if isDiv(op) {
								want.Took = map[uint32]int{0: 2, 3: 8, 100: 3, 0xffffffff: 2}[b]
								if b == 0xffffffff && (op == api.Div || op == api.Rem) { // it is -1
									want.Took = 9
								}
								want.Left = want.Took
							}
							if isJump(op) {
								want.Next, _ = seq.Target(e.Inst, 40, a, b)
							}
						}
						if got != want {
							t.Fatalf("Start(%+v,%d,%d) = %+v", e, a, b, got)
						}
					}
				}
			}
		}
	}
}

// P18.1: jumps to where no word can stand, those that are not taken, and places that go round.
func TestStartJumps(t *testing.T) {
	for _, x := range []struct {
		op     int
		imm    uint32
		a, b   uint32
		next   uint32
		halt   int
		value1 uint32
	}{
		{api.Jal, 6, 0, 0, 44, api.HJump, 0}, {api.Jal, 8, 0, 0, 48, 0, 44}, {api.Jal, 1, 0, 0, 44, api.HJump, 0},
		{api.Jalr, 2, 100, 0, 44, api.HJump, 0}, {api.Jalr, 1, 100, 0, 100, 0, 44}, {api.Jalr, 3, 100, 0, 44, api.HJump, 0}, {api.Jalr, 0xfffffffc, 4, 0, 0, 0, 44},
		{api.Beq, 6, 1, 1, 44, api.HJump, 0}, {api.Beq, 6, 1, 2, 44, 0, 0}, {api.Beq, 0xffffffd0, 1, 1, 0xfffffff8, 0, 0},
		{api.Bne, 8, 1, 2, 48, 0, 0}, {api.Bltu, 2, 1, 2, 44, api.HJump, 0},
	} {
		e := full(x.op, 1, api.EWait)
		e.Inst.Imm = x.imm
		want := e
		want.Is, want.Left, want.Next, want.Halt, want.Value = api.EGoes, 1, x.next, x.halt, x.value1
		if got := exec.Start(e, x.a, x.b); got != want {
			t.Errorf("op %d by %x of %d, %d: %+v", x.op, x.imm, x.a, x.b, got)
		}
	}
	e := api.Entry{PC: 0xfffffffc, Inst: api.Inst{Op: api.Addi, Rd: 1}}
	if got := exec.Start(e, 0, 0); got.Next != 0 {
		t.Errorf("going round: %+v", got)
	}
	e = full(api.Beq, 0, api.EWait)
	e.Inst.Imm, e.Halt = 6, 99
	if got := exec.Start(e, 1, 1); got.Halt != api.HJump || got.Next != 44 {
		t.Errorf("a jump that had a Halt: %+v", got)
	}
	if got := exec.Start(e, 1, 2); got.Halt != 99 {
		t.Errorf("a jump that keeps its Halt: %+v", got)
	}
}

// P18.2: Address of loads and stores that wait and are not known; of others nothing.
func TestAddress(t *testing.T) {
	for op := -1; op < 60; op++ {
		for _, is := range states {
			for _, known := range []bool{false, true} {
				for _, halt := range []int{0, 99} {
					for _, a := range []uint32{0, 1, 2, 4, 8, 0xfffffff8, 0xfffffff6, 0xfffffff0, 0x80000000} {
						for _, memory := range []int{0, 8, 9, 12, 16, -1, math.MinInt, 1 << 33} {
							e := full(op, 1, is)
							e.Known, e.Halt = known, halt
							want := e
							if (isLoad(op) || isStore(op)) && is == api.EWait && !known {
								n := size(op)
								want.Addr = a + 8
								if int(want.Addr)%n == 0 && int(want.Addr)+n <= memory {
									want.Known = true
								} else {
									want.Is, want.Halt = api.EDone, api.HLoad
									if isStore(op) {
										want.Halt = api.HStore
									}
								}
							}
							if got := exec.Address(e, memory, a); got != want {
								t.Fatalf("Address(%+v,%d,%x) = %+v", e, memory, a, got)
							}
						}
					}
				}
			}
		}
	}
}

// P18.3: Go of each op, in each state, with each Left.
func TestGo(t *testing.T) {
	for op := -1; op < 60; op++ {
		for _, is := range states {
			for _, left := range []int{math.MinInt, math.MinInt + 1, -1, 0, 1, 2, 3, 34, math.MaxInt} {
				for _, halt := range []int{0, api.HJump, 99} {
					for _, known := range []bool{false, true} {
						e := full(op, 1, is)
						e.Left, e.Halt, e.Known = left, halt, known
						want := e
						if is == api.EGoes {
							want.Left = left - 1
							if left <= 1 && left != math.MinInt {
								want.Left, want.Is = 0, api.EDone
								want.Known = known || isJump(op) && halt == 0
							}
						}
						if got := exec.Go(e); got != want {
							t.Fatalf("Go(%+v) = %+v", e, got)
						}
					}
				}
			}
		}
	}
}

// P18.4: Take of loads that are known and wait; of others nothing.
func TestTake(t *testing.T) {
	values := map[int]uint32{api.Lb: 0xffffff81, api.Lbu: 0x81, api.Lh: 0xffff8281, api.Lhu: 0x8281, api.Lw: 0x84838281}
	for op := -1; op < 60; op++ {
		for _, is := range states {
			for _, known := range []bool{false, true} {
				for _, rd := range []int{0, 1, -3} {
					for _, n := range []int{0, 1, 2, 3, 4, 5} {
						e := full(op, rd, is)
						e.Known, e.Halt = known, 5
						want := e
						if isLoad(op) && known && (is == api.EWait || is == api.EBus) {
							want.Is, want.Left, want.Value = api.EGoes, 1, 0
							if n == size(op) && rd != 0 {
								want.Value = values[op]
							}
						}
						if got := exec.Take(e, "\x81\x82\x83\x84\x85"[:n]); got != want {
							t.Fatalf("Take(%+v, %d bytes) = %+v", e, n, got)
						}
					}
				}
			}
		}
	}
}

// P18.4: Store of stores that are known and wait; of others nothing.
func TestStore(t *testing.T) {
	values := map[int]uint32{api.Sb: 0x81, api.Sh: 0x8281, api.Sw: 0x84838281}
	for op := -1; op < 60; op++ {
		for _, is := range states {
			for _, known := range []bool{false, true} {
				for _, halt := range []int{0, 99} {
					e := full(op, 1, is)
					e.Known, e.Halt = known, halt
					want := e
					if isStore(op) && known && is == api.EWait {
						want.Is, want.Value = api.EDone, values[op]
					}
					if got := exec.Store(e, 0x84838281); got != want {
						t.Fatalf("Store(%+v) = %+v", e, got)
					}
				}
			}
		}
	}
}

// P18.5: Told of each op, in each state, with each Halt.
func TestTold(t *testing.T) {
	for op := -1; op < 60; op++ {
		for _, is := range states {
			for _, rd := range []int{0, 1, 40, -2} {
				for _, halt := range []int{0, 1, 2, 3, 4, 5, 6, 7, 8, -1} {
					e := full(op, rd, is)
					e.Halt = halt
					want := api.Step{PC: 40, Next: 40, Halt: halt}
					if halt == api.HLoad || halt == api.HStore {
						want.Addr = 20
					}
					if halt == 0 {
						want.Next, want.Rd = 44, writes(e.Inst)
						if want.Rd != 0 || isStore(op) {
							want.Value = 18
						}
						if isJump(op) {
							want.Next = 19
						}
						if isLoad(op) || isStore(op) {
							want.Addr, want.Size, want.Store = 20, size(op), isStore(op)
						}
						if isDiv(op) {
							want.Took = 22
						}
					}
					if got := exec.Told(e); got != want {
						t.Fatalf("Told(%+v) = %+v", e, got)
					}
				}
			}
		}
	}
	if got := exec.Told(api.Entry{PC: 0xfffffffc}); got.Next != 0 {
		t.Errorf("going round: %+v", got)
	}
}

func TestExamples(t *testing.T) {
	e := exec.Go(exec.Start(api.Entry{Inst: api.Inst{Op: api.Addi, Rd: 1, Imm: 5}}, 0, 0))
	if e.Is != api.EDone || e.Value != 5 || e.Known {
		t.Errorf("Addi: %+v", e)
	}
	e = exec.Go(exec.Start(api.Entry{PC: 4, Inst: api.Inst{Op: api.Beq, Imm: 8}}, 1, 1))
	if !e.Known || e.Next != 12 || e.Is != api.EDone {
		t.Errorf("Beq: %+v", e)
	}
}

func anyWord(r *rand.Rand) uint32 {
	edges := []uint32{0, 1, 2, 4, 8, 12, 15, 16, 28, 31, 0x7fffffff, 0x80000000, 0xffffffff}
	if r.Intn(2) == 0 {
		return r.Uint32() >> uint(r.Intn(32))
	}
	return edges[r.Intn(len(edges))]
}

// finish goes through an entry's whole life, with the registers and the memory of a run, and counts its cycles.
func finish(t *testing.T, e api.Entry, s api.State) (api.Entry, int) {
	a, b := s.Regs[e.Inst.Rs1], s.Regs[e.Inst.Rs2]
	switch {
	case isLoad(e.Inst.Op) || isStore(e.Inst.Op):
		e = exec.Address(e, len(s.Mem), a)
		e = exec.Store(e, b)
		if e.Halt == 0 {
			e = exec.Take(e, s.Mem[e.Addr:][:size(e.Inst.Op)])
		}
	default:
		e = exec.Start(e, a, b)
	}
	n := 0
	for ; e.Is != api.EDone; n++ {
		if n > 40 {
			t.Fatalf("it does not end: %+v", e)
		}
		e = exec.Go(e)
	}
	return e, n
}

// anyOf is a word at random that tells an instruction of the op.
func anyOf(r *rand.Rand, op int) (uint32, api.Inst) {
	codes := []uint32{0x37, 0x17, 0x6f, 0x67, 0x63, 0x03, 0x23, 0x13, 0x33}
	for {
		w := r.Uint32()&^0xfe00007f | codes[r.Intn(9)] | []uint32{0, 1, 0x20, r.Uint32()}[r.Intn(4)]<<25
		if op == api.Fence {
			w = 0x0f
		}
		if i, e := inst.Decode(w); e == api.OK && i.Op == op {
			return w, i
		}
	}
}

// P18.6: what an entry tells in the end is the step of the sequential run.
func TestAsSequential(t *testing.T) {
	r := rand.New(rand.NewSource(24))
	for op := api.Lui; op < api.Ecall; op++ {
		for range 300 {
			w, i := anyOf(r, op)
			s := api.State{PC: uint32(r.Intn(4) * 4), Mem: strings.Repeat("\x91\x02\xf3\x04", 1<<uint(r.Intn(4)))}
			prog := []uint32{w, w, w, w}
			for k := range s.Regs[1:] {
				s.Regs[k+1] = anyWord(r)
			}
			if size(op) > 0 && r.Intn(3) > 0 {
				s.Regs[i.Rs1] = uint32(r.Intn(40)) - i.Imm
				s.Regs[0] = 0
			}
			_, want := seq.Step(prog, s)
			done, n := finish(t, api.Entry{No: 3, PC: s.PC, Inst: i, Guess: 9}, s)
			if got := exec.Told(done); got != want {
				t.Fatalf("%+v at %+v tells %+v, not %+v", i, s, got, want)
			}
			if isDiv(op) && n != want.Took || isMul(op) && n != 3 {
				t.Fatalf("%+v took %d", i, n)
			}
		}
	}
}
