package retire_test

import (
	"math"
	"math/rand"
	"slices"
	"strings"
	"testing"

	"auspex/api"
	"auspex/bus"
	"auspex/cache"
	"auspex/retire"
	"auspex/view"
)

func same(a, b api.Cache) bool {
	return a.Ways == b.Ways && slices.EqualFunc(a.Sets, b.Sets, func(x, y []api.Way) bool { return slices.Equal(x, y) })
}

func copied(c api.Cache) api.Cache {
	sets := make([][]api.Way, len(c.Sets))
	for k, s := range c.Sets {
		sets[k] = slices.Clone(s)
	}
	return api.Cache{Ways: c.Ways, Sets: sets}
}

func data(b byte) string { return strings.Repeat(string([]byte{b}), 16) }

func of(ways int, sets ...[]api.Way) api.Cache { return api.Cache{Ways: ways, Sets: sets} }

// P20.1: Apply, of registers that there are and of others, with a Halt and without.
func TestApply(t *testing.T) {
	var regs [32]uint32
	for k := range regs {
		regs[k] = uint32(100 + k)
	}
	for _, rd := range []int{math.MinInt, -1, 0, 1, 2, 30, 31, 32, 33, 1<<32 + 1, math.MaxInt} {
		for _, halt := range []int{0, 1, 7, -1, 99} {
			for _, store := range []bool{false, true} {
				want := regs
				if rd >= 1 && rd <= 31 && halt == 0 {
					want[rd] = 5
				}
				if got := retire.Apply(regs, api.Step{Rd: rd, Value: 5, Halt: halt, Store: store, Size: 4}); got != want {
					t.Errorf("Apply of %d, Halt %d: %v", rd, halt, got)
				}
			}
		}
	}
}

// P20.1: Stored, of stores and of what is none.
func TestStored(t *testing.T) {
	for _, size := range []int{math.MinInt, -1, 0, 1, 2, 3, 4, 5, 8, 1<<32 + 1, math.MaxInt} {
		for _, halt := range []int{0, 5, -1} {
			for _, store := range []bool{false, true} {
				p, ok := retire.Stored(api.Step{PC: 4, Rd: 3, Addr: 77, Size: size, Store: store, Halt: halt, Value: 0x84838281})
				if store && halt == 0 && (size == 1 || size == 2 || size == 4) {
					if !ok || p != (api.Put{Addr: 77, Data: "\x81\x82\x83\x84"[:size]}) {
						t.Errorf("Stored of %d bytes: %+v, %v", size, p, ok)
					}
				} else if ok || p != (api.Put{}) {
					t.Errorf("Stored of %d bytes, Halt %d, %v: %+v, %v", size, halt, store, p, ok)
				}
			}
		}
	}
}

type brought struct {
	name string
	c    api.Cache
	q    []api.Request
	line uint32
	left int
	then api.Cache
	more []api.Request
}

// P20.2: Bring, by hand, from memory with what waits to be written.
func TestBring(t *testing.T) {
	m := data('m') + data('n') + data('o') + data('p')
	a, b := api.Way{Line: 0, Data: data('a')}, api.Way{Line: 16, Dirty: true, Data: data('b')}
	n, o := api.Way{Line: 16, Data: data('n')}, api.Way{Line: 32, Data: data('o')}
	write := api.Request{Kind: api.RWrite, Line: 32, Left: 3, Data: data('w')}
	other := api.Request{Kind: api.RLoad, Line: 32, Left: 3, Data: data('x')}
	for _, x := range []brought{
		{"into an empty one", of(1, nil), nil, 16, 2, of(1, []api.Way{n}), nil},
		{"by any address of it", of(1, nil), nil, 31, 2, of(1, []api.Way{n}), nil},
		{"a clean one goes", of(1, []api.Way{a}), nil, 16, 2, of(1, []api.Way{n}), nil},
		{"a dirty one goes", of(1, []api.Way{b}), nil, 32, 2, of(1, []api.Way{o}), []api.Request{{Kind: api.RWrite, Line: 16, Left: 2, Data: data('b')}}},
		{"a dirty one goes at once", of(1, []api.Way{b}), nil, 32, -4, of(1, []api.Way{o}), []api.Request{{Kind: api.RWrite, Line: 16, Left: 1, Data: data('b')}}},
		{"a dirty one without data goes", of(1, []api.Way{{Line: 16, Dirty: true}}), nil, 32, 2, of(1, []api.Way{o}), nil},
		{"a dirty one stays where there is room", of(2, []api.Way{b}), nil, 32, 2, of(2, []api.Way{o, b}), nil},
		{"the last one goes", of(2, []api.Way{a, b}), nil, 32, 2, of(2, []api.Way{o, a}), []api.Request{{Kind: api.RWrite, Line: 16, Left: 2, Data: data('b')}}},
		{"the last one goes, a clean one", of(2, []api.Way{b, a}), nil, 32, 2, of(2, []api.Way{o, b}), nil},
		{"of its set", of(1, []api.Way{a}, []api.Way{b}), nil, 32, 2, of(1, []api.Way{o}, []api.Way{b}), nil},
		{"it stands there", of(2, []api.Way{a, b}), nil, 16, 2, of(2, []api.Way{b, a}), nil},
		{"it stands there, without data", of(2, []api.Way{a, {Line: 16}}), nil, 20, 2, of(2, []api.Way{{Line: 16}, a}), nil},
		{"what waits to be written counts", of(1, nil), []api.Request{write}, 32, 2, of(1, []api.Way{{Line: 32, Data: data('w')}}), nil},
		{"other requests do not", of(1, nil), []api.Request{other}, 32, 2, of(1, []api.Way{o}), nil},
		{"behind what waits", of(1, []api.Way{b}), []api.Request{other}, 32, 2, of(1, []api.Way{o}), []api.Request{{Kind: api.RWrite, Line: 16, Left: 2, Data: data('b')}}},
		{"beyond memory", of(1, nil), nil, 64, 2, of(1, []api.Way{{Line: 64}}), nil},
		{"one that may not be", of(3, []api.Way{b}), []api.Request{other}, 32, 2, of(3, []api.Way{b}), nil},
		{"one that may not be, with the line", of(1, []api.Way{a, b}), nil, 16, 2, of(1, []api.Way{a, b}), nil},
	} {
		q := make([]api.Request, len(x.q), len(x.q)+2)
		copy(q, x.q)
		kept := copied(x.c)
		c, got, ok := retire.Bring(x.c, q, m, x.line, x.left)
		if !same(c, x.then) || !slices.Equal(got, append(slices.Clone(x.q), x.more...)) || ok != (len(x.more) > 0) {
			t.Errorf("%s: %+v, %+v, %v", x.name, c, got, ok)
		}
		if !same(x.c, kept) || !slices.Equal(q, x.q) || q[:len(q)+1][len(q)] != (api.Request{}) {
			t.Errorf("%s: an argument is changed", x.name)
		}
	}
	if c, _, _ := retire.Bring(of(1, nil), nil, data('m')+"short", 16, 1); !same(c, of(1, []api.Way{{Line: 16}})) {
		t.Errorf("of less than a line: %+v", c)
	}
}

// P20.3: Drain, by hand.
func TestDrain(t *testing.T) {
	c := of(2, []api.Way{{Line: 0, Data: data('a')}, {Line: 16, Data: data('b')}})
	for _, x := range []struct {
		name   string
		stores []api.Put
		sets   []api.Way
		ok     bool
	}{
		{"none", nil, c.Sets[0], false},
		{"the first one", []api.Put{{Addr: 17, Data: "xy"}, {Addr: 0, Data: "z"}}, []api.Way{{Line: 16, Dirty: true, Data: "bxy" + data('b')[3:]}, c.Sets[0][0]}, true},
		{"not the second one", []api.Put{{Addr: 32, Data: "xy"}, {Addr: 0, Data: "z"}}, c.Sets[0], false},
		{"over the line's end", []api.Put{{Addr: 15, Data: "xy"}}, c.Sets[0], false},
		{"the last one", []api.Put{{Addr: 15, Data: "x"}}, []api.Way{{Line: 0, Dirty: true, Data: data('a')[1:] + "x"}, c.Sets[0][1]}, true},
	} {
		stores, kept := slices.Clone(x.stores), copied(c)
		rest, got, ok := retire.Drain(x.stores, c)
		want := x.stores
		if x.ok {
			want = want[1:]
		}
		if ok != x.ok || !slices.Equal(rest, want) || !same(got, of(2, x.sets)) {
			t.Errorf("%s: %+v, %+v, %v", x.name, rest, got, ok)
		}
		if !same(c, kept) || !slices.Equal(stores, x.stores) {
			t.Errorf("%s: an argument is changed", x.name)
		}
	}
	bare := of(1, []api.Way{{Line: 0}})
	if rest, got, ok := retire.Drain([]api.Put{{Data: "x"}}, bare); ok || len(rest) != 1 || !same(got, bare) {
		t.Error("a line without data")
	}
	bad := of(3, []api.Way{{Line: 0, Data: data('a')}})
	if rest, got, ok := retire.Drain([]api.Put{{Data: "x"}}, bad); ok || len(rest) != 1 || !same(got, bad) {
		t.Error("a cache that may not be")
	}
}

// P20.4: neither Bring nor Drain changes what memory is.
func TestWhatFollows(t *testing.T) {
	r := rand.New(rand.NewSource(26))
	pushed, drained := 0, 0
	for range 300 {
		m := data('m') + data('n') + data('o') + data('p')
		var q []api.Request
		var stores []api.Put
		c := cache.New(1+r.Intn(2), 1+r.Intn(2))
		for k := range 20 {
			all := view.All(stores, c, q, m)
			switch r.Intn(3) {
			case 0:
				var ok bool
				c, q, ok = retire.Bring(c, q, m, uint32(r.Intn(64)), 1+r.Intn(3))
				if ok {
					pushed++
				}
			case 1:
				var ok bool
				stores, c, ok = retire.Drain(stores, c)
				if ok {
					drained++
				}
			case 2:
				var done api.Request
				var ok bool
				q, done, ok = bus.Tick(q)
				if ok {
					m = view.Over(m, api.Put{Addr: done.Line, Data: done.Data})
				}
			}
			if view.All(stores, c, q, m) != all {
				t.Fatal("what memory is changes")
			}
			n := []int{1, 2, 4}[r.Intn(3)]
			put, ok := retire.Stored(api.Step{Addr: uint32(r.Intn(64/n) * n), Size: n, Store: true, Value: uint32(k) * 0x01010101})
			if !ok {
				t.Fatal("a store that is none")
			}
			if len(stores) < 4 {
				stores = append(stores, put)
				if view.All(stores, c, q, m) != view.Over(all, put) {
					t.Fatal("a store is not seen")
				}
			}
		}
	}
	if pushed < 100 || drained < 100 {
		t.Errorf("%d pushed, %d drained", pushed, drained)
	}
}
