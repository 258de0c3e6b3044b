package trace_test

import (
	"math"
	"math/rand"
	"slices"
	"testing"

	"auspex/api"
	"auspex/inst"
	"auspex/seq"
	"auspex/trace"
)

func words(t *testing.T, is ...api.Inst) []uint32 {
	t.Helper()
	var out []uint32
	for _, i := range is {
		w, e := inst.Encode(i)
		if e != api.OK {
			t.Fatalf("no word tells %+v", i)
		}
		out = append(out, w)
	}
	return out
}

// P7.1: an event has its step's place, address, size, time and halt, and what was loaded where the contract tells it.
func TestOf(t *testing.T) {
	for _, x := range []struct {
		step   api.Step
		event  api.Event
		loaded uint32
	}{
		{api.Step{}, api.Event{}, 0},
		{api.Step{Addr: 8, Size: 4, Rd: 1, Value: 7}, api.Event{Addr: 8, Size: 4}, 7},
		{api.Step{Addr: 8, Size: 1, Value: 0xffffff80, PC: 4, Next: 8}, api.Event{PC: 4, Addr: 8, Size: 1}, 0xffffff80},
		{api.Step{Addr: 8, Size: 4, Store: true, Value: 7}, api.Event{Addr: 8, Size: 4}, 0},
		{api.Step{PC: 12, Next: 40, Rd: 1, Value: 16}, api.Event{PC: 12}, 0},
		{api.Step{PC: 4, Next: 8, Rd: 3, Value: 9, Took: 5}, api.Event{PC: 4, Took: 5}, 0},
		{api.Step{PC: 4, Next: 4, Addr: 33, Halt: api.HLoad}, api.Event{PC: 4, Addr: 33, Halt: api.HLoad}, 0},
		{api.Step{PC: 4, Size: -4, Value: 9, Took: -1, Halt: -2}, api.Event{PC: 4, Size: -4, Took: -1, Halt: -2}, 0},
		{api.Step{PC: math.MaxUint32, Size: math.MaxInt, Value: 3, Took: 2, Halt: 9}, api.Event{PC: math.MaxUint32, Size: math.MaxInt, Took: 2, Halt: 9}, 3},
	} {
		if got := trace.Of([]api.Step{x.step}, false); !slices.Equal(got, []api.Event{x.event}) {
			t.Errorf("%+v without: %+v", x.step, got)
		}
		x.event.Loaded = x.loaded
		if got := trace.Of([]api.Step{x.step}, true); !slices.Equal(got, []api.Event{x.event}) {
			t.Errorf("%+v with: %+v", x.step, got)
		}
	}
	if len(trace.Of(nil, true)) != 0 || len(trace.Of([]api.Step{}, false)) != 0 {
		t.Error("of no steps")
	}
}

// P7.1: of all steps, in order; the steps stay.
func TestOfAll(t *testing.T) {
	steps := []api.Step{{PC: 0}, {PC: 4, Took: 3}, {PC: 8, Size: 2, Value: 5}, {PC: 12, Halt: 7}}
	kept := slices.Clone(steps)
	want := []api.Event{{PC: 0}, {PC: 4, Took: 3}, {PC: 8, Size: 2, Loaded: 5}, {PC: 12, Halt: 7}}
	if got := trace.Of(steps, true); !slices.Equal(got, want) || !slices.Equal(steps, kept) {
		t.Errorf("%+v", got)
	}
}

// P7.1: Run tells the steps of the sequential run, as many as are asked for.
func TestRun(t *testing.T) {
	prog := words(t, api.Inst{Op: api.Lw, Rd: 1, Imm: 4}, api.Inst{Op: api.Div, Rd: 2, Rs1: 1, Rs2: 1}, api.Inst{Op: api.Sb, Rs2: 1, Imm: 9}, api.Inst{Op: api.Ebreak})
	m := "abcdefgh"
	all := []api.Event{{Addr: 4, Size: 4, Loaded: 0x68676665}, {PC: 4, Took: 3}, {PC: 8, Addr: 9, Size: 1}, {PC: 12, Halt: api.HBreak}}
	for n := -1; n < 7; n++ {
		want := slices.Clone(all[:max(0, min(n, 4))])
		if got := trace.Run(prog, m, n, true); !slices.Equal(got, want) {
			t.Errorf("%d steps: %+v", n, got)
		}
		for k := range want {
			want[k].Loaded = 0
		}
		if got := trace.Run(prog, m, n, false); !slices.Equal(got, want) {
			t.Errorf("%d steps without: %+v", n, got)
		}
	}
	if got := trace.Run([]uint32{0x6f}, "", math.MaxInt, false); len(got) != 10000 {
		t.Errorf("a loop: %d", len(got))
	}
}

// P7.1: Same counts as far as both agree in every field.
func TestSame(t *testing.T) {
	a := []api.Event{{PC: 0}, {PC: 4}, {PC: 8}}
	if n := trace.Same(a, a); n != 3 {
		t.Errorf("the same: %d", n)
	}
	if trace.Same(a, a[:2]) != 2 || trace.Same(a[:1], a) != 1 || trace.Same(nil, a) != 0 || trace.Same(a, nil) != 0 || trace.Same(nil, nil) != 0 {
		t.Error("of other lengths")
	}
	for k, change := range []func(*api.Event){
		func(e *api.Event) { e.PC++ }, func(e *api.Event) { e.Addr++ }, func(e *api.Event) { e.Size++ },
		func(e *api.Event) { e.Took++ }, func(e *api.Event) { e.Loaded++ }, func(e *api.Event) { e.Halt++ },
	} {
		for at := range a {
			b := slices.Clone(a)
			change(&b[at])
			if trace.Same(a, b) != at || trace.Same(b, a) != at {
				t.Errorf("change %d at %d: %d", k, at, trace.Same(a, b))
			}
		}
	}
}

// P7.2: where the architectural events agree, so do those of the other contract, the places and the registers written.
func TestWhatFollows(t *testing.T) {
	r := rand.New(rand.NewSource(12))
	ops := []int{api.Lw, api.Lbu, api.Lh, api.Sw, api.Sb, api.Addi, api.Add, api.Divu, api.Rem, api.Beq, api.Blt, api.Jal, api.Mul, api.Sltu}
	apart, loads := 0, 0
	for range 800 {
		var is []api.Inst
		for range 10 {
			i := api.Inst{Op: ops[r.Intn(len(ops))], Rd: r.Intn(5), Rs1: r.Intn(5), Rs2: r.Intn(5), Imm: uint32(4 * (1 + r.Intn(3)))}
			switch inst.Kind(i) {
			case api.KLoad:
				i.Rs1, i.Rs2 = i.Rs1/2, 0
			case api.KStore:
				i.Rd, i.Rs1 = 0, 0
			case api.KJump:
				i.Rd = 0
			}
			switch i.Op {
			case api.Jal:
				i.Rs1, i.Rs2 = 0, 0
			case api.Addi:
				i.Rs2 = 0
			case api.Add, api.Divu, api.Rem, api.Mul, api.Sltu:
				i.Imm = 0
			}
			is = append(is, i)
		}
		prog := words(t, is...)
		m, w := make([]byte, 32), make([]byte, 32)
		for k := range m {
			m[k] = byte(r.Intn(3))
			w[k] = m[k]
			if r.Intn(8) == 0 {
				w[k] = byte(r.Intn(3))
			}
		}
		_, a := seq.Run(prog, string(m), 40)
		_, b := seq.Run(prog, string(w), 40)
		n := trace.Same(trace.Of(a, true), trace.Of(b, true))
		if trace.Same(trace.Of(a, false), trace.Of(b, false)) < n {
			t.Fatal("the other contract knows more")
		}
		for k := 0; k < n; k++ {
			if a[k].PC != b[k].PC || a[k].Next != b[k].Next || a[k].Rd != b[k].Rd || a[k].Value != b[k].Value && !a[k].Store {
				t.Fatalf("step %d: %+v, %+v", k, a[k], b[k])
			}
			if a[k].Size > 0 {
				loads++
			}
		}
		if n < len(a) {
			apart++
		}
	}
	if apart < 20 || loads < 500 {
		t.Errorf("%d runs apart, %d loads", apart, loads)
	}
}
