package bus_test

import (
	"math"
	"math/rand"
	"slices"
	"testing"

	"auspex/api"
	"auspex/bus"
)

// row is a list with room behind it, so that one who writes there is found out.
func row(rs ...api.Request) []api.Request {
	l := make([]api.Request, len(rs), len(rs)+3)
	copy(l, rs)
	for k := len(rs); k < cap(l); k++ {
		l[:cap(l)][k] = api.Request{Kind: 77}
	}
	return l
}

func untouched(l, kept []api.Request) bool {
	for _, r := range l[len(l):cap(l)] {
		if r.Kind != 77 {
			return false
		}
	}
	return slices.Equal(l, kept)
}

// P9.1: Push behind all, Left at least 1, Line and Kind as they are handed in.
func TestPush(t *testing.T) {
	first := api.Request{Kind: api.RWrite, Line: 48, Left: 3, Data: "abc"}
	for _, left := range []int{math.MinInt, -1, 0, 1, 2, 8, 100, math.MaxInt} {
		for _, kind := range []int{-1, 0, 1, 2, 3, 4, 5} {
			for _, line := range []uint32{0, 16, 37, math.MaxUint32} {
				q := row(first)
				want := api.Request{Kind: kind, Line: line, Left: left, Data: "xy"}
				if left < 1 {
					want.Left = 1
				}
				got := bus.Push(q, kind, line, left, "xy")
				if !slices.Equal(got, []api.Request{first, want}) {
					t.Errorf("Push: %+v", got)
				}
				if !untouched(q, []api.Request{first}) {
					t.Error("the argument is changed")
				}
			}
		}
	}
	if got := bus.Push(nil, 1, 16, 2, ""); !slices.Equal(got, []api.Request{{Kind: 1, Line: 16, Left: 2}}) {
		t.Errorf("Push to none: %+v", got)
	}
}

// P9.1: LineOf.
func TestLineOf(t *testing.T) {
	for _, x := range [][2]uint32{{0, 0}, {1, 0}, {15, 0}, {16, 16}, {31, 16}, {32, 32}, {37, 32}, {255, 240}, {256, 256}, {0x7fffffff, 0x7ffffff0}, {0xfffffff0, 0xfffffff0}, {0xffffffff, 0xfffffff0}} {
		if got := bus.LineOf(x[0]); got != x[1] {
			t.Errorf("LineOf(%d) = %d", x[0], got)
		}
	}
}

// P9.2: Tick of none, of one that goes on, and of one that is done.
func TestTick(t *testing.T) {
	if q, r, ok := bus.Tick(nil); len(q) != 0 || r != (api.Request{}) || ok {
		t.Error("none")
	}
	second := api.Request{Kind: 2, Line: 32, Left: 1}
	for _, x := range []struct {
		left, then int
		done       bool
	}{
		{1, 0, true}, {2, 1, false}, {8, 7, false}, {0, -1, true}, {-1, -2, true}, {math.MinInt + 1, math.MinInt, true},
		{math.MinInt, math.MaxInt, false}, {math.MaxInt, math.MaxInt - 1, false},
	} {
		for _, kind := range []int{-3, 0, 1, 2, 3, 4, 9} {
			first := api.Request{Kind: kind, Line: 17, Left: x.left, Data: "d"}
			q := row(first, second)
			rest, r, ok := bus.Tick(q)
			if !untouched(q, []api.Request{first, second}) {
				t.Errorf("Left %d: the argument is changed", x.left)
			}
			first.Left = x.then
			if x.done && (!ok || r != first || !slices.Equal(rest, []api.Request{second})) {
				t.Errorf("Left %d: %+v, %+v, %v", x.left, rest, r, ok)
			}
			if !x.done && (ok || r != (api.Request{}) || !slices.Equal(rest, []api.Request{first, second})) {
				t.Errorf("Left %d: %+v, %+v, %v", x.left, rest, r, ok)
			}
		}
	}
	if rest, r, ok := bus.Tick([]api.Request{{Left: 1}}); len(rest) != 0 || r != (api.Request{}) || !ok {
		t.Error("example")
	}
}

// P9.3: Has asks for the Line as it is, and for one of the kinds.
func TestHas(t *testing.T) {
	q := []api.Request{{Kind: api.RLoad, Line: 16}, {Kind: api.RWrite, Line: 32}, {Kind: api.RWord, Line: 16}, {Kind: 9, Line: 37}}
	for _, x := range []struct {
		line  uint32
		kinds []int
		want  bool
	}{
		{16, []int{api.RLoad}, true}, {16, []int{api.RWord}, true}, {16, []int{api.RDrain}, false}, {16, []int{api.RWrite}, false},
		{16, []int{api.RDrain, api.RWord}, true}, {16, []int{api.RDrain, api.RWrite}, false}, {16, nil, false}, {16, []int{}, false},
		{17, []int{api.RLoad}, false}, {32, []int{api.RWrite}, true}, {32, []int{1, 2, 3}, false}, {32, []int{1, 2, 3, 4}, true},
		{37, []int{9}, true}, {32, []int{9}, false}, {37, []int{1, 2, 3, 4}, false}, {0, []int{0, 1, 2, 3, 4}, false},
	} {
		if got := bus.Has(q, x.line, x.kinds...); got != x.want {
			t.Errorf("Has(%d, %v) = %v", x.line, x.kinds, got)
		}
	}
	if bus.Has(nil, 16, 1, 2, 3, 4) {
		t.Error("Has of none")
	}
}

// P9.3: Reads counts all but writes, of whatever kind.
func TestReads(t *testing.T) {
	var q []api.Request
	want := 0
	for _, kind := range []int{1, 4, 2, 4, 3, 0, 5, -1, 4, 1, math.MaxInt} {
		if got := bus.Reads(q); got != want {
			t.Errorf("Reads(%+v) = %d, not %d", q, got, want)
		}
		q = append(q, api.Request{Kind: kind})
		if kind != 4 {
			want++
		}
	}
	if got := bus.Reads(q); got != 8 {
		t.Errorf("Reads of all: %d", got)
	}
}

// P9.4: requests are done in their order, in the sum of their Left.
func TestInOrder(t *testing.T) {
	r := rand.New(rand.NewSource(14))
	for range 200 {
		var q []api.Request
		var at []int
		sum := 0
		for k := range 1 + r.Intn(6) {
			left := r.Intn(9)
			q = bus.Push(q, 1+r.Intn(4), uint32(k), left, "")
			sum += max(left, 1)
			at = append(at, sum)
		}
		next := 0
		for cycle := 1; cycle <= sum+2; cycle++ {
			var done api.Request
			var ok bool
			q, done, ok = bus.Tick(q)
			if ok != (next < len(at) && at[next] == cycle) {
				t.Fatalf("cycle %d: %+v, %v; they are done at %v", cycle, done, ok, at)
			}
			if ok {
				if done.Line != uint32(next) || done.Left != 0 {
					t.Fatalf("done: %+v, not number %d", done, next)
				}
				next++
			}
		}
		if len(q) != 0 || next != len(at) {
			t.Fatal("not all are done")
		}
	}
}
