package watch_test

import (
	"math"
	"math/rand"
	"reflect"
	"slices"
	"strings"
	"testing"

	"auspex/api"
	"auspex/core"
	"auspex/inst"
	"auspex/watch"
)

func data(b byte) string { return strings.Repeat(string([]byte{b}), 16) }

// plain is a sight in which what is empty is nil.
func plain(s api.Seen) api.Seen {
	sets := func(l [][]api.Way) [][]api.Way {
		var out [][]api.Way
		for _, set := range l {
			out = append(out, append([]api.Way(nil), set...))
		}
		return out
	}
	return api.Seen{Data: sets(s.Data), Words: sets(s.Words), Bus: append([]api.Request(nil), s.Bus...), PCs: append([]uint32(nil), s.PCs...)}
}

func same(a, b api.Seen) bool { return reflect.DeepEqual(plain(a), plain(b)) }

func aCore() api.Core {
	c := core.New(api.Conf{Sets: 2, Ways: 2}, nil, "")
	c.Data.Sets = [][]api.Way{{{Line: 32, Dirty: true, Data: data('c')}, {Line: 0, Data: data('a')}}, nil}
	c.Words.Sets = [][]api.Way{nil, {{Line: 16}}}
	c.Bus = []api.Request{{Kind: api.RWrite, Line: 48, Left: 3, Data: data('d')}, {Kind: api.RLoad, Line: 64, Left: 2}}
	c.Retired = []api.Step{{PC: 0, Next: 4}, {PC: 4, Next: 12, Rd: 1, Value: 9}, {PC: 12, Halt: 7}}
	return c
}

// P22.1: See tells tags, requests without their time and data, and places from number before on.
func TestSee(t *testing.T) {
	c := aCore()
	all := []uint32{0, 4, 12}
	for before, pcs := range map[int][]uint32{math.MinInt: all, -1: all, 0: all, 1: all[1:], 2: all[2:], 3: nil, 4: nil, math.MaxInt: nil} {
		want := api.Seen{
			Data:  [][]api.Way{{{Line: 32, Dirty: true}, {Line: 0}}, nil},
			Words: [][]api.Way{nil, {{Line: 16}}},
			Bus:   []api.Request{{Kind: api.RWrite, Line: 48}, {Kind: api.RLoad, Line: 64}},
			PCs:   pcs,
		}
		if got := watch.See(c, before); !same(got, want) {
			t.Errorf("See from %d: %+v", before, got)
		}
	}
	if !reflect.DeepEqual(c, aCore()) {
		t.Error("See changes the core")
	}
	if got := watch.See(core.New(api.Conf{}, nil, ""), 0); !same(got, api.Seen{Data: make([][]api.Way, 1), Words: make([][]api.Way, 1)}) {
		t.Errorf("New: %+v", got)
	}
	c.Data.Ways = 9
	if got := watch.See(c, 0); len(got.Data) != 0 || len(got.Words) != 2 {
		t.Errorf("a cache that may not be: %+v", got)
	}
	if got := watch.See(api.Core{}, 0); !same(got, api.Seen{}) {
		t.Errorf("zero: %+v", got)
	}
}

// aProgram loops: it loads, stores and divides.
func aProgram(t *testing.T) []uint32 {
	t.Helper()
	var out []uint32
	for _, i := range []api.Inst{
		{Op: api.Addi, Rd: 1, Imm: 3}, {Op: api.Lw, Rd: 2, Rs1: 3, Imm: 16}, {Op: api.Sw, Rs1: 3, Rs2: 1, Imm: 32},
		{Op: api.Divu, Rd: 4, Rs1: 2, Rs2: 1}, {Op: api.Addi, Rd: 3, Rs1: 3, Imm: 4}, {Op: api.Addi, Rd: 1, Rs1: 1, Imm: 0xffffffff},
		{Op: api.Bne, Rs1: 1, Imm: 0xffffffec}, {Op: api.Ebreak},
	} {
		w, e := inst.Encode(i)
		if e != api.OK {
			t.Fatalf("no word tells %+v", i)
		}
		out = append(out, w)
	}
	return out
}

func anyConf(r *rand.Rand) api.Conf {
	return api.Conf{
		Mode: r.Intn(3), Width: 1 + r.Intn(2), Rob: 2 + r.Intn(7), Queue: 1 + r.Intn(4), Stores: 1 + r.Intn(4), Slots: 2 + r.Intn(5),
		Sets: 1 << r.Intn(3), Ways: 1 + r.Intn(2), Lat: []int{1 + r.Intn(8), 1 + r.Intn(8)}, Tables: r.Intn(2) == 0,
	}
}

// P22.2, P22.4: Run is what is seen behind each cycle; of a longer run the beginning is the same; all places are those that retired.
func TestRun(t *testing.T) {
	r := rand.New(rand.NewSource(30))
	prog := aProgram(t)
	m := strings.Repeat("abcdefgh", 12)
	for range 30 {
		c := anyConf(r)
		long, row := watch.Run(c, prog, m, 200)
		if len(row) != 200 || !reflect.DeepEqual(long, core.Run(c, prog, m, 200)) {
			t.Fatalf("%d sights", len(row))
		}
		x := core.New(c, prog, m)
		var pcs []uint32
		for k, s := range row {
			before := len(x.Retired)
			x = core.Step(x)
			if !same(s, watch.See(x, before)) || !watch.Same(s, watch.See(x, before)) {
				t.Fatalf("cycle %d: %+v", k, s)
			}
			if len(s.PCs) != len(x.Retired)-before {
				t.Fatalf("cycle %d: %d retired", k, len(s.PCs))
			}
			pcs = append(pcs, s.PCs...)
		}
		var places []uint32
		for _, s := range long.Retired {
			places = append(places, s.PC)
		}
		if !slices.Equal(pcs, places) || len(pcs) == 0 {
			t.Fatalf("places %v, not %v", pcs, places)
		}
		n := r.Intn(200)
		if _, short := watch.Run(c, prog, m, n); len(short) != n || watch.First(short, row[:n]) != -1 {
			t.Fatalf("the beginning of %d", n)
		}
	}
}

// P22.2: as many cycles as there may be.
func TestRunBounds(t *testing.T) {
	for _, x := range [][2]int{{math.MinInt, 0}, {-1, 0}, {0, 0}, {1, 1}, {1999, 1999}, {2000, 2000}, {2001, 2000}, {math.MaxInt, 2000}} {
		c, row := watch.Run(api.Conf{}, []uint32{0x6f}, "", x[0])
		if len(row) != x[1] || c.Cycle != x[1] {
			t.Errorf("Run of %d: %d sights, cycle %d", x[0], len(row), c.Cycle)
		}
	}
}

func aSight() api.Seen {
	return api.Seen{
		Data:  [][]api.Way{{{Line: 32, Dirty: true}, {Line: 0}}, nil},
		Words: [][]api.Way{nil, {{Line: 16}}},
		Bus:   []api.Request{{Kind: api.RWrite, Line: 48}, {Kind: api.RLoad, Line: 64}},
		PCs:   []uint32{8, 12},
	}
}

// P22.3: Same, part by part.
func TestSame(t *testing.T) {
	if !watch.Same(aSight(), aSight()) || !watch.Same(api.Seen{}, api.Seen{}) {
		t.Error("the same")
	}
	empty := api.Seen{Data: [][]api.Way{}, Words: [][]api.Way{}, Bus: []api.Request{}, PCs: []uint32{}}
	if !watch.Same(empty, api.Seen{}) || !watch.Same(api.Seen{}, empty) {
		t.Error("a nil row is an empty one")
	}
	within := aSight()
	within.Data[1] = []api.Way{}
	if !watch.Same(within, aSight()) {
		t.Error("a nil set is an empty one")
	}
	for k, change := range []func(*api.Seen){
		func(s *api.Seen) { s.Data[0][0].Line = 64 }, func(s *api.Seen) { s.Data[0][1].Dirty = true }, func(s *api.Seen) { s.Data[0] = s.Data[0][:1] },
		func(s *api.Seen) { s.Data = s.Data[:1] }, func(s *api.Seen) { s.Data[0][0], s.Data[0][1] = s.Data[0][1], s.Data[0][0] },
		func(s *api.Seen) { s.Data[0][0].Data = "x" }, func(s *api.Seen) { s.Data[0], s.Data[1] = s.Data[1], s.Data[0] },
		func(s *api.Seen) { s.Words[1][0].Line = 0 }, func(s *api.Seen) { s.Words = nil }, func(s *api.Seen) { s.Words[0] = s.Words[1] },
		func(s *api.Seen) { s.Bus[0].Kind = api.RLoad }, func(s *api.Seen) { s.Bus[1].Line = 0 }, func(s *api.Seen) { s.Bus = s.Bus[:1] },
		func(s *api.Seen) { s.Bus[0].Left = 1 }, func(s *api.Seen) { s.Bus[0].Data = "x" }, func(s *api.Seen) { s.Bus = append(s.Bus, s.Bus[0]) },
		func(s *api.Seen) { s.PCs[1] = 16 }, func(s *api.Seen) { s.PCs = s.PCs[:1] }, func(s *api.Seen) { s.PCs = append(s.PCs, 0) }, func(s *api.Seen) { s.PCs = nil },
	} {
		s := aSight()
		change(&s)
		if watch.Same(s, aSight()) || watch.Same(aSight(), s) {
			t.Errorf("change %d is not seen", k)
		}
	}
}

// P22.3: First, of rows of the same and of other lengths.
func TestFirst(t *testing.T) {
	a, b := aSight(), aSight()
	b.PCs = nil
	for _, x := range []struct {
		a, b []api.Seen
		want int
	}{
		{nil, nil, -1}, {nil, []api.Seen{}, -1}, {[]api.Seen{a}, nil, 0}, {nil, []api.Seen{a}, 0}, {[]api.Seen{a}, []api.Seen{aSight()}, -1},
		{[]api.Seen{a}, []api.Seen{b}, 0}, {[]api.Seen{a, a, b}, []api.Seen{a, a, a}, 2}, {[]api.Seen{a, b, a}, []api.Seen{a, a, b}, 1},
		{[]api.Seen{a, b}, []api.Seen{a, b, a}, 2}, {[]api.Seen{a, b, a, a}, []api.Seen{a, b}, 2}, {[]api.Seen{a, b, a}, []api.Seen{a, b, a}, -1},
	} {
		if got := watch.First(x.a, x.b); got != x.want {
			t.Errorf("First of %d and %d: %d, not %d", len(x.a), len(x.b), got, x.want)
		}
	}
}
