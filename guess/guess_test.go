package guess_test

import (
	"math"
	"math/rand"
	"slices"
	"testing"

	"auspex/api"
	"auspex/guess"
)

func same(a, b api.Guess) bool {
	return a.History == b.History && slices.Equal(a.Slots, b.Slots) && slices.Equal(a.Returns, b.Returns)
}

func copied(g api.Guess) api.Guess {
	g.Slots, g.Returns = slices.Clone(g.Slots), slices.Clone(g.Returns)
	return g
}

var (
	branch = api.Inst{Op: api.Beq, Imm: 4}
	call   = api.Inst{Op: api.Jal, Rd: 1}
	callBy = api.Inst{Op: api.Jalr, Rd: 1, Rs1: 1}
	goBack = api.Inst{Op: api.Jalr, Rs1: 1}
)

// P12.1: New and Right.
func TestNewAndRight(t *testing.T) {
	g := guess.New()
	if !same(g, api.Guess{Slots: make([]api.Slot, 8)}) || !guess.Right(g) {
		t.Errorf("New: %+v", g)
	}
	for _, n := range []int{0, 1, 7, 8, 9, 16} {
		for _, history := range []uint32{0, 1, 7, 8, 9, math.MaxUint32} {
			for _, returns := range []int{0, 1, 4, 5, 9} {
				g := api.Guess{Slots: make([]api.Slot, n), History: history, Returns: make([]uint32, returns)}
				if got := guess.Right(g); got != (n == 8 && history < 8 && returns <= 4) {
					t.Errorf("Right of %d slots, history %d, %d returns: %v", n, history, returns, got)
				}
			}
		}
	}
	if guess.Right(api.Guess{}) {
		t.Error("Right of zero")
	}
}

func bad() []api.Guess {
	slot := api.Slot{PC: 8, Next: 40}
	eight := slices.Repeat([]api.Slot{slot}, 8)
	return []api.Guess{{}, {Slots: eight[:7]}, {Slots: append(slices.Clone(eight), slot)}, {Slots: eight, History: 8}, {Slots: eight, Returns: []uint32{1, 2, 3, 4, 5}}}
}

// P12.2, P12.3: what guesses that may not be guesses pc + 4, and stays.
func TestBad(t *testing.T) {
	for k, g := range bad() {
		kept := copied(g)
		for _, i := range []api.Inst{branch, call, goBack, {Op: api.Addi}} {
			if got := guess.Next(g, 8, i); got != 12 {
				t.Errorf("%d: Next %d", k, got)
			}
			if got := guess.Train(g, 8, 40, i); !same(got, kept) {
				t.Errorf("%d: Train %+v", k, got)
			}
		}
	}
}

// P12.2, P12.3: what is no jump.
func TestNoJump(t *testing.T) {
	g := api.Guess{Slots: slices.Repeat([]api.Slot{{PC: 8, Next: 40}}, 8), History: 3, Returns: []uint32{60}}
	for op := -2; op < 60; op++ {
		if op >= api.Jal && op <= api.Bgeu {
			continue
		}
		i := api.Inst{Op: op, Rd: 0, Rs1: 1}
		if got := guess.Next(g, 8, i); got != 12 {
			t.Errorf("op %d: Next %d", op, got)
		}
		i.Rd = 1
		if got := guess.Train(g, 8, 44, i); !same(got, g) {
			t.Errorf("op %d: Train %+v", op, got)
		}
	}
	if got := guess.Next(g, 0xfffffffe, api.Inst{Op: api.Add}); got != 2 {
		t.Errorf("going round: %d", got)
	}
}

// P12.2: the slot is that of the place and the history, and must have that place.
func TestNextBySlot(t *testing.T) {
	for _, op := range []int{api.Jal, api.Jalr, api.Beq, api.Bne, api.Blt, api.Bge, api.Bltu, api.Bgeu} {
		for history := uint32(0); history < 8; history++ {
			for _, pc := range []uint32{0, 4, 8, 28, 32, 36, 252, 0xfffffffc, 9, 0x80000004} {
				for at := uint32(0); at < 8; at++ {
					g := api.Guess{Slots: make([]api.Slot, 8), History: history}
					g.Slots[at] = api.Slot{PC: pc, Next: 1000}
					want := pc + 4
					if at == (pc/4^history)%8 {
						want = 1000
					}
					if got := guess.Next(g, pc, api.Inst{Op: op, Rd: 2, Rs1: 3}); got != want {
						t.Fatalf("op %d, history %d, place %d, slot %d: %d, not %d", op, history, pc, at, got, want)
					}
				}
			}
		}
	}
	g := guess.New()
	g.Slots[2] = api.Slot{PC: 40, Next: 1000}
	if guess.Next(g, 8, branch) != 12 || guess.Next(g, 40, branch) != 1000 {
		t.Error("another place in the slot")
	}
	if guess.Next(guess.New(), 0, branch) != 4 {
		t.Error("a slot of two zeros has none")
	}
	g.Slots[0] = api.Slot{PC: 0, Next: 12}
	if guess.Next(g, 0, branch) != 12 {
		t.Error("the slot of place 0")
	}
	g.Slots[2] = api.Slot{PC: 8, Next: 0}
	if guess.Next(g, 8, branch) != 0 {
		t.Error("a slot whose Next is 0")
	}
}

// P12.2: what returns goes to the last one of Returns, if there is one; others go by slots.
func TestNextReturns(t *testing.T) {
	g := guess.New()
	g.Slots[2] = api.Slot{PC: 8, Next: 1000}
	g.Returns = []uint32{60, 80}
	if got := guess.Next(g, 8, goBack); got != 80 {
		t.Errorf("returns: %d", got)
	}
	for _, i := range []api.Inst{{Op: api.Jalr, Rd: 0, Rs1: 2}, {Op: api.Jalr, Rd: 2, Rs1: 1}, callBy, {Op: api.Jal, Rs1: 1}, {Op: api.Beq, Rs1: 1}} {
		if got := guess.Next(g, 8, i); got != 1000 {
			t.Errorf("%+v: %d", i, got)
		}
	}
	g.Returns = []uint32{60}
	if got := guess.Next(g, 8, goBack); got != 60 {
		t.Errorf("returns to the only one: %d", got)
	}
	g.Returns = nil
	if got := guess.Next(g, 8, goBack); got != 1000 {
		t.Errorf("returns to none: %d", got)
	}
	if got := guess.Next(guess.New(), 8, goBack); got != 12 {
		t.Errorf("nothing known: %d", got)
	}
}

// P12.3: the slot, by the history as it was; and the history.
func TestTrainSlots(t *testing.T) {
	for history := uint32(0); history < 8; history++ {
		for _, pc := range []uint32{0, 4, 8, 28, 36, 0xfffffffc} {
			for _, next := range []uint32{pc + 4, pc, pc + 8, 0, pc - 4} {
				g := api.Guess{Slots: slices.Repeat([]api.Slot{{PC: 7, Next: 7}}, 8), History: history}
				want := copied(g)
				want.Slots[(pc/4^history)%8] = api.Slot{PC: pc, Next: next}
				want.History = history % 4 * 2
				if next != pc+4 {
					want.History++
				}
				kept := copied(g)
				if got := guess.Train(g, pc, next, branch); !same(got, want) {
					t.Fatalf("history %d, %d to %d: %+v", history, pc, next, got)
				}
				if !same(g, kept) {
					t.Fatal("Train changes its argument")
				}
			}
		}
	}
}

// P12.3: Returns of calls, of what returns, and of other jumps.
func TestTrainReturns(t *testing.T) {
	for n := 0; n <= 4; n++ {
		was := []uint32{10, 20, 30, 40}[:n]
		called := append(slices.Clone(was), 12)
		if len(called) == 5 {
			called = called[1:]
		}
		for _, x := range []struct {
			i    api.Inst
			want []uint32
		}{
			{call, called}, {callBy, called}, {api.Inst{Op: api.Jalr, Rd: 1, Rs1: 5}, called},
			{goBack, was[:max(n-1, 0)]}, {api.Inst{Op: api.Jal}, was}, {api.Inst{Op: api.Jal, Rd: 2}, was}, {api.Inst{Op: api.Jal, Rs1: 1}, was},
			{api.Inst{Op: api.Jalr, Rs1: 2}, was}, {api.Inst{Op: api.Jalr, Rd: 2, Rs1: 1}, was}, {api.Inst{Op: api.Beq, Rd: 1, Rs1: 1}, was}, {branch, was},
		} {
			g := guess.New()
			g.Returns = make([]uint32, n, 9)
			copy(g.Returns, was)
			got := guess.Train(g, 8, 100, x.i)
			if !slices.Equal(got.Returns, x.want) {
				t.Errorf("%+v behind %v: %v", x.i, was, got.Returns)
			}
			if !slices.Equal(g.Returns, was) || g.Returns[:9][n] != 0 {
				t.Error("Train changes its argument's Returns")
			}
		}
	}
	g := guess.Train(guess.New(), 0xfffffffe, 100, call)
	if !slices.Equal(g.Returns, []uint32{2}) {
		t.Errorf("going round: %v", g.Returns)
	}
}

func TestExamples(t *testing.T) {
	if got := guess.Next(guess.New(), 8, branch); got != 12 {
		t.Errorf("New: %d", got)
	}
	g := guess.Train(guess.New(), 8, 12, branch)
	if got := guess.Next(g, 8, branch); got != 12 {
		t.Errorf("trained: %d", got)
	}
	g = guess.Train(guess.New(), 8, 40, branch)
	if got := guess.Next(g, 8, branch); got != 12 {
		t.Errorf("the history is another one now: %d", got)
	}
	g.History = 0
	if got := guess.Next(g, 8, branch); got != 40 {
		t.Errorf("with the history as it was: %d", got)
	}
}

// P12.4: what is trained may be; what is guessed hangs on places and what came behind them alone.
func TestWhatFollows(t *testing.T) {
	r := rand.New(rand.NewSource(18))
	jumps := []api.Inst{branch, call, callBy, goBack, {Op: api.Bgeu}, {Op: api.Jal}}
	for range 200 {
		g, h := guess.New(), guess.New()
		for range 40 {
			i := jumps[r.Intn(len(jumps))]
			pc, next := uint32(r.Intn(20)*4), uint32(r.Intn(20)*4)
			other := i
			other.Rs2, other.Imm = r.Intn(32), r.Uint32()
			g, h = guess.Train(g, pc, next, i), guess.Train(h, pc, next, other)
			if !guess.Right(g) || !same(g, h) {
				t.Fatalf("%+v, %+v", g, h)
			}
			if at := uint32(r.Intn(20) * 4); guess.Next(g, at, i) != guess.Next(h, at, other) {
				t.Fatal("guesses of one place")
			}
		}
	}
}
