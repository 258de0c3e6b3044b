package core_test

import (
	"math"
	"math/rand"
	"reflect"
	"slices"
	"testing"

	"auspex/api"
	"auspex/conf"
	"auspex/core"
	"auspex/seq"
	"auspex/view"
)

// plain is a core in which what is empty is nil, so that two can be held against each other.
func plain(c api.Core) api.Core {
	c.Conf.Lat, c.Conf.Tape, c.Prog = emptied(c.Conf.Lat), emptied(c.Conf.Tape), emptied(c.Prog)
	c.Fetched, c.Rob, c.Stores, c.Bus, c.Retired = emptied(c.Fetched), emptied(c.Rob), emptied(c.Stores), emptied(c.Bus), emptied(c.Retired)
	c.Guess.Slots, c.Guess.Returns = emptied(c.Guess.Slots), emptied(c.Guess.Returns)
	c.Data.Sets, c.Words.Sets = emptySets(c.Data.Sets), emptySets(c.Words.Sets)
	return c
}

func emptied[T any](l []T) []T {
	if len(l) == 0 {
		return nil
	}
	return slices.Clone(l)
}

func emptySets(sets [][]api.Way) [][]api.Way {
	var out [][]api.Way
	for _, s := range sets {
		out = append(out, emptied(s))
	}
	return out
}

func same(a, b api.Core) bool { return reflect.DeepEqual(plain(a), plain(b)) }

// P21.2: many cycles of many programs and shapes, and of cores with a part changed, against the document's sentences.
func TestAgainstModel(t *testing.T) {
	r := rand.New(rand.NewSource(27))
	stepped, odd := 0, 0
	for range 160 {
		c := core.New(anyConf(r), anyProg(r), anyMem(r))
		for range 40 + r.Intn(60) {
			kept := plain(c)
			want := model(c)
			got := core.Step(c)
			if !same(got, want) {
				t.Fatalf("of\n%+v\ncomes\n%+v\nnot\n%+v", c, got, want)
			}
			if !reflect.DeepEqual(plain(c), kept) {
				t.Fatalf("Step changes its argument, or what it answered ahead: %+v", c)
			}
			stepped++
			x := bent(r, c)
			if core.Right(x) {
				odd++
				if got, want := core.Step(x), model(x); !same(got, want) {
					t.Fatalf("of\n%+v\ncomes\n%+v\nnot\n%+v", x, got, want)
				}
			} else if !same(core.Step(x), x) {
				t.Fatalf("a core that may not be goes on: %+v", x)
			}
			c = got
		}
	}
	if stepped < 5000 || odd < 3000 {
		t.Errorf("%d cycles, %d of changed ones", stepped, odd)
	}
}

// following is a core, and the sequential run of its program up to what retired.
type following struct {
	c     api.Core
	s     api.State
	steps []api.Step
}

func (f *following) step(t *testing.T, prog []uint32) {
	t.Helper()
	before := len(f.c.Retired)
	f.c = core.Step(f.c)
	for len(f.steps) < len(f.c.Retired) {
		var told api.Step
		f.s, told = seq.Step(prog, f.s)
		f.steps = append(f.steps, told)
	}
	switch {
	case !core.Right(f.c):
		t.Fatalf("it may not be: %+v", f.c)
	case !slices.Equal(f.c.Retired, f.steps):
		t.Fatalf("retired\n%+v, not\n%+v", f.c.Retired, f.steps)
	case len(f.c.Retired)-before > f.c.Conf.Width:
		t.Fatal("more than Width retired")
	case f.c.Regs != f.s.Regs:
		t.Fatalf("registers %v, not %v", f.c.Regs, f.s.Regs)
	case f.c.Halt != f.s.Halt:
		t.Fatalf("Halt %d, not %d", f.c.Halt, f.s.Halt)
	case view.All(f.c.Stores, f.c.Data, f.c.Bus, f.c.Mem) != f.s.Mem:
		t.Fatal("another memory")
	}
}

// P2, P3, P21.4, P21.5, P21.6: at each cycle the sequential run, within the bounds, and idle behind the halt.
func TestSequential(t *testing.T) {
	r := rand.New(rand.NewSource(28))
	halted := 0
	for range 120 {
		prog, c, m := anyProg(r), anyConf(r), anyMem(r)
		f := following{c: core.New(c, prog, m), s: seq.New(prog, m)}
		_, whole := seq.Run(prog, m, 3000)
		n := 0
		for ; n < 300 && f.c.Halt == 0; n++ {
			f.step(t, prog)
			if len(f.c.Retired) < min((n+1)/conf.Bound(c), len(whole)) {
				t.Fatalf("%d retired behind %d cycles", len(f.c.Retired), n+1)
			}
		}
		if f.c.Halt == 0 {
			continue
		}
		halted++
		for range conf.Drain(c) + left(f.c) {
			f.step(t, prog)
		}
		for range 5 {
			if !core.Idle(f.c) || f.c.Mem != f.s.Mem {
				t.Fatalf("it is not idle: %+v", f.c)
			}
			f.step(t, prog)
		}
	}
	if halted < 40 {
		t.Errorf("only %d halted", halted)
	}
}

func left(c api.Core) int {
	n := 0
	for _, q := range c.Bus {
		n += q.Left
	}
	return n
}

// P21.3: Run is New, and so many times Step; none of a number below 0, and never more than 2000.
func TestRun(t *testing.T) {
	r := rand.New(rand.NewSource(29))
	for range 20 {
		prog, c, m := anyProg(r), anyConf(r), anyMem(r)
		x := core.New(c, prog, m)
		for n := range 60 {
			if got := core.Run(c, prog, m, n); !same(got, x) {
				t.Fatalf("Run of %d: %+v", n, got)
			}
			x = core.Step(x)
		}
	}
	loop := encoded(api.Inst{Op: api.Jal})
	for _, x := range [][2]int{{math.MinInt, 0}, {-1, 0}, {1, 1}, {1999, 1999}, {2000, 2000}, {2001, 2000}, {math.MaxInt, 2000}} {
		if got := core.Run(api.Conf{}, loop, "", x[0]); got.Cycle != x[1] {
			t.Errorf("Run of %d: %d cycles", x[0], got.Cycle)
		}
	}
}

func shapes() []api.Conf {
	var out []api.Conf
	for mode := range 3 {
		out = append(out, api.Conf{Mode: mode}, api.Conf{Mode: mode, Width: 2, Rob: 8, Queue: 4, Stores: 4, Slots: 6, Sets: 4, Ways: 2, Tables: true},
			api.Conf{Mode: mode, Width: 2, Rob: 3, Queue: 2, Stores: 1, Slots: 2, Sets: 1, Ways: 1, Lat: []int{8, 1, 3}, Tape: []uint32{0, 4, 100, 7}})
	}
	return out
}

// The ten examples of the whole, but for the known programs.
func TestWholeExamples(t *testing.T) {
	for _, c := range shapes() {
		for _, x := range []struct {
			prog []uint32
			n    int
			last api.Step
		}{
			{[]uint32{0x00500093, 0x00100073}, 2, api.Step{PC: 4, Next: 4, Halt: api.HBreak}},
			{nil, 1, api.Step{Halt: api.HFetch}},
			{[]uint32{0}, 1, api.Step{Halt: api.HWord}},
			{[]uint32{0x73}, 1, api.Step{Halt: api.HCall}},
			{[]uint32{0x01002083}, 1, api.Step{Addr: 16, Halt: api.HLoad}},
			{[]uint32{0x00202023, 0x00100073}, 2, api.Step{PC: 4, Next: 4, Halt: api.HBreak}},
			{[]uint32{0x00200067}, 1, api.Step{Halt: api.HJump}},
		} {
			got := core.Run(c, x.prog, "0123456789abcdef", 400)
			if len(got.Retired) != x.n || got.Retired[x.n-1] != x.last || got.Halt != x.last.Halt || !core.Idle(got) {
				t.Errorf("%x: %+v", x.prog, got)
			}
		}
		if got := core.Run(c, []uint32{0x00500093, 0x00100073}, "", 400); got.Regs[1] != 5 {
			t.Errorf("register 1: %d", got.Regs[1])
		}
		if got := core.Run(c, []uint32{0x00202023, 0x00100073}, "0123456789abcdef", 400); got.Mem != "\x00\x00\x00\x00456789abcdef" {
			t.Errorf("memory: %q", got.Mem)
		}
		got := core.Run(c, []uint32{0x0000006f}, "", 300)
		if got.Halt != 0 || len(got.Retired) < 2 || core.Idle(got) {
			t.Errorf("a loop: %+v", got)
		}
		for _, s := range got.Retired {
			if s != (api.Step{}) {
				t.Errorf("a loop: %+v", s)
			}
		}
	}
}

// The chapter's example, cycle by cycle as its sentences make it: asked, come, entered, started, done.
func TestFirstCycles(t *testing.T) {
	for n, want := range []int{0, 0, 0, 0, 0, 1, 2, 2} {
		got := core.Run(api.Conf{}, []uint32{0x00500093, 0x00100073}, "", n)
		if len(got.Retired) != want {
			t.Errorf("behind %d cycles %d retired", n, len(got.Retired))
		}
	}
	if got := core.Run(api.Conf{}, []uint32{0x00500093, 0x00100073}, "", 12); len(got.Retired) != 2 {
		t.Errorf("within 12 cycles: %+v", got.Retired)
	}
}
