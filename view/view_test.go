package view_test

import (
	"math"
	"math/rand"
	"slices"
	"strings"
	"testing"

	"auspex/api"
	"auspex/bus"
	"auspex/cache"
	"auspex/mem"
	"auspex/view"
)

func rising(n int) string {
	b := make([]byte, n)
	for k := range b {
		b[k] = byte('A' + k)
	}
	return string(b)
}

// over writes byte by byte, at places that do not go round.
func over(m string, stores ...api.Put) string {
	b := []byte(m)
	for _, s := range stores {
		for k := range len(s.Data) {
			if at := uint64(s.Addr) + uint64(k); at < uint64(len(b)) {
				b[at] = s.Data[k]
			}
		}
	}
	return string(b)
}

// P11.1: Over, within memory and over its end.
func TestOver(t *testing.T) {
	for _, x := range []struct {
		m      string
		stores []api.Put
		want   string
	}{
		{"abcd", []api.Put{{Addr: 3, Data: "XY"}}, "abcX"},
		{"abcd", nil, "abcd"},
		{"", []api.Put{{Addr: 0, Data: "XY"}}, ""},
		{"abcd", []api.Put{{Addr: 0, Data: ""}}, "abcd"},
		{"abcd", []api.Put{{Addr: 4, Data: "XY"}}, "abcd"},
		{"abcd", []api.Put{{Addr: 0, Data: "uvwxyz"}}, "uvwx"},
		{"abcd", []api.Put{{Addr: 1, Data: "XY"}, {Addr: 2, Data: "Z"}}, "aXZd"},
		{"abcd", []api.Put{{Addr: 2, Data: "Z"}, {Addr: 1, Data: "XY"}}, "aXYd"},
		{"abcd", []api.Put{{Addr: math.MaxUint32, Data: "PQRS"}}, "abcd"},
		{"abcd", []api.Put{{Addr: 0xfffffffe, Data: "PQRS"}, {Addr: 1, Data: "Q"}}, "aQcd"},
	} {
		kept := slices.Clone(x.stores)
		if got := view.Over(x.m, x.stores...); got != x.want {
			t.Errorf("Over(%q,%+v) = %q", x.m, x.stores, got)
		}
		if !slices.Equal(x.stores, kept) {
			t.Error("the stores are changed")
		}
	}
	r := rand.New(rand.NewSource(16))
	for range 500 {
		m := rising(r.Intn(40))
		var stores []api.Put
		for range r.Intn(5) {
			stores = append(stores, api.Put{Addr: uint32(r.Intn(45)), Data: strings.Repeat("x", r.Intn(20))})
		}
		if got := view.Over(m, stores...); got != over(m, stores...) {
			t.Fatalf("Over(%q,%+v) = %q", m, stores, got)
		}
	}
}

// P11.1: Cut, of whole lines, of a last part, and of none.
func TestCut(t *testing.T) {
	m := rising(40)
	for _, x := range []struct {
		m    string
		line uint32
		want string
	}{
		{m, 0, m[:16]}, {m, 5, m[:16]}, {m, 15, m[:16]}, {m, 16, m[16:32]}, {m, 31, m[16:32]}, {m, 32, m[32:]}, {m, 47, m[32:]},
		{m, 48, ""}, {m, math.MaxUint32, ""}, {m[:16], 5, m[:16]}, {m[:16], 16, ""}, {m[:3], 2, m[:3]}, {m[:3], 9, m[:3]}, {"", 0, ""},
	} {
		if got := view.Cut(x.m, x.line); got != x.want {
			t.Errorf("Cut(%d bytes, %d) = %q", len(x.m), x.line, got)
		}
	}
}

// P11.2: Below takes the writes alone, in order, at their Lines as they stand.
func TestBelow(t *testing.T) {
	m := rising(20)
	q := []api.Request{
		{Kind: api.RLoad, Line: 0, Data: "11"}, {Kind: api.RWrite, Line: 3, Data: "22"}, {Kind: api.RWord, Line: 6, Data: "33"},
		{Kind: api.RDrain, Line: 9, Data: "44"}, {Kind: api.RWrite, Line: 4, Data: "55"}, {Kind: 5, Line: 12, Data: "66"},
		{Kind: 0, Line: 14, Data: "77"}, {Kind: api.RWrite, Line: 19, Data: "88"}, {Kind: api.RWrite, Line: math.MaxUint32, Data: "99"},
	}
	kept := slices.Clone(q)
	if got, want := view.Below(q, m), "ABC255GHIJKLMNOPQRS8"; got != want {
		t.Errorf("Below: %q, not %q", got, want)
	}
	if !slices.Equal(q, kept) {
		t.Error("the requests are changed")
	}
	if view.Below(nil, m) != m || view.Below(q, "") != "" {
		t.Error("Below of none")
	}
}

// P11.2: Under has the ways over the writes, by sets, then by places, also of a cache that may not be.
func TestUnder(t *testing.T) {
	m := rising(20)
	q := []api.Request{{Kind: api.RWrite, Line: 2, Data: "2222"}}
	c := api.Cache{Ways: -1, Sets: [][]api.Way{
		{{Line: 4, Data: "aaa"}, {Line: 5, Data: "b"}}, nil,
		{{Line: 6, Dirty: true, Data: "cc"}, {Line: 0}, {Line: 19, Data: "ddd"}},
	}}
	if got, want := view.Under(c, q, m), "AB22abccIJKLMNOPQRSd"; got != want {
		t.Errorf("Under: %q, not %q", got, want)
	}
	if got := view.Under(api.Cache{}, nil, m); got != m {
		t.Errorf("Under of nothing: %q", got)
	}
	if got := view.Under(api.Cache{}, q, m); got != view.Below(q, m) {
		t.Errorf("Under of no cache: %q", got)
	}
}

// P11.2: All has the stores over all of it, in order.
func TestAll(t *testing.T) {
	m := rising(20)
	q := []api.Request{{Kind: api.RWrite, Line: 2, Data: "2222"}, {Kind: api.RLoad, Line: 9, Data: "9"}}
	c := api.Cache{Sets: [][]api.Way{{{Line: 4, Data: "aaa"}}}}
	stores := []api.Put{{Addr: 5, Data: "xx"}, {Addr: 6, Data: "y"}, {Addr: 18, Data: "zzz"}}
	kept := slices.Clone(stores)
	if got, want := view.All(stores, c, q, m), "AB22axyHIJKLMNOPQRzz"; got != want {
		t.Errorf("All: %q, not %q", got, want)
	}
	if !slices.Equal(stores, kept) {
		t.Error("the stores are changed")
	}
	if view.All(nil, c, q, m) != view.Under(c, q, m) {
		t.Error("All without stores")
	}
}

// P11.3: All is as long as m, and stays when things go on their way.
func TestWhatFollows(t *testing.T) {
	r := rand.New(rand.NewSource(17))
	drained, gone, written := 0, 0, 0
	for range 2000 {
		m := rising(64)
		line := func() uint32 { return uint32(r.Intn(4) * 16) }
		whole := func() string { return strings.Repeat(string(rune('a'+r.Intn(26))), 16) }
		var q []api.Request
		for range r.Intn(4) {
			q = bus.Push(q, 1+r.Intn(4), line(), 1, whole())
		}
		c := cache.New(1+r.Intn(2), 1+r.Intn(2))
		for range r.Intn(4) {
			c, _, _ = cache.Put(c, line(), whole(), r.Intn(2) == 0)
		}
		var stores []api.Put
		for range r.Intn(4) {
			n := []int{1, 2, 4}[r.Intn(3)]
			stores = append(stores, api.Put{Addr: uint32(r.Intn(64/n) * n), Data: whole()[:n]})
		}
		all := view.All(stores, c, q, m)
		if len(all) != len(m) {
			t.Fatalf("%d bytes", len(all))
		}
		if len(stores) > 0 {
			if d, ok := cache.Write(c, stores[0].Addr, stores[0].Data); ok {
				drained++
				if view.All(stores[1:], d, q, m) != all {
					t.Fatal("a store that is drained is seen")
				}
			}
		}
		if w, ok := cache.Dirty(c); ok {
			gone++
			d := api.Cache{Ways: c.Ways}
			for _, set := range c.Sets {
				d.Sets = append(d.Sets, slices.DeleteFunc(slices.Clone(set), func(x api.Way) bool { return x == w }))
			}
			if view.All(stores, d, bus.Push(q, api.RWrite, w.Line, 1, w.Data), m) != all {
				t.Fatal("a way that goes is seen")
			}
		}
		if rest, done, ok := bus.Tick(q); ok && done.Kind == api.RWrite {
			written++
			n, e := m, api.OK
			for k := 0; k < 16; k += 4 {
				if n, e = mem.Write(n, done.Line+uint32(k), done.Data[k:k+4]); e != api.OK {
					t.Fatal(e)
				}
			}
			if view.All(stores, c, rest, n) != all || n != view.Over(m, api.Put{Addr: done.Line, Data: done.Data}) {
				t.Fatal("a write that is done is seen")
			}
		}
	}
	if drained < 100 || gone < 100 || written < 100 {
		t.Errorf("%d drained, %d gone, %d written", drained, gone, written)
	}
}
