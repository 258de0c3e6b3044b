package cache_test

import (
	"math"
	"math/rand"
	"slices"
	"strings"
	"testing"

	"auspex/api"
	"auspex/cache"
)

func data(b byte) string { return strings.Repeat(string([]byte{b}), 16) }

// same holds two caches against each other; an empty set is a nil one.
func same(a, b api.Cache) bool {
	return a.Ways == b.Ways && slices.EqualFunc(a.Sets, b.Sets, func(x, y []api.Way) bool { return slices.Equal(x, y) })
}

func copied(c api.Cache) api.Cache {
	sets := make([][]api.Way, len(c.Sets))
	for k, s := range c.Sets {
		sets[k] = slices.Clone(s)
	}
	return api.Cache{Ways: c.Ways, Sets: sets}
}

func of(ways int, sets ...[]api.Way) api.Cache { return api.Cache{Ways: ways, Sets: sets} }

// P10.1: New, of numbers within their bounds and beyond.
func TestNew(t *testing.T) {
	for _, x := range [][2]int{{math.MinInt, 1}, {-1, 1}, {0, 1}, {1, 1}, {2, 2}, {3, 2}, {4, 4}, {5, 4}, {8, 4}, {math.MaxInt, 4}} {
		for _, y := range [][2]int{{math.MinInt, 1}, {-1, 1}, {0, 1}, {1, 1}, {2, 2}, {3, 2}, {math.MaxInt, 2}} {
			c := cache.New(x[0], y[0])
			if !same(c, api.Cache{Ways: y[1], Sets: make([][]api.Way, x[1])}) || !cache.Right(c) {
				t.Errorf("New(%d,%d) = %+v", x[0], y[0], c)
			}
		}
	}
}

// bad are caches that may not be, each for one reason.
func bad() map[string]api.Cache {
	none := [][]api.Way{nil, nil, nil, nil, nil, nil, nil, nil}
	return map[string]api.Cache{
		"zero":              {},
		"no sets":           {Ways: 1},
		"three sets":        {Ways: 1, Sets: none[:3]},
		"five sets":         {Ways: 1, Sets: none[:5]},
		"eight sets":        {Ways: 1, Sets: none},
		"no ways":           of(0, nil),
		"ways below 0":      of(-1, nil),
		"three ways":        of(3, nil),
		"more than ways":    of(1, []api.Way{{Line: 0}, {Line: 16}}),
		"more than two":     of(2, nil, []api.Way{{Line: 16}, {Line: 48}, {Line: 80}}),
		"no multiple":       of(2, []api.Way{{Line: 8}}),
		"twice":             of(2, []api.Way{{Line: 16}, {Line: 16, Data: data(1)}}),
		"another set":       of(2, []api.Way{{Line: 16}}, nil),
		"another set of 4":  of(2, nil, nil, []api.Way{{Line: 16}}, nil),
		"15 bytes":          of(2, []api.Way{{Line: 16, Data: data(1)[:15]}}),
		"17 bytes":          of(2, []api.Way{{Line: 16, Data: data(1) + "x"}}),
		"one byte":          of(2, []api.Way{{Line: 0}, {Line: 16, Data: "x"}}),
		"bad in a last set": of(1, nil, nil, nil, []api.Way{{Line: 49}}),
	}
}

func good() []api.Cache {
	return []api.Cache{
		of(1, nil), of(2, nil, nil), of(2, nil, nil, nil, nil), of(1, []api.Way{}),
		of(1, []api.Way{{Line: 0xfffffff0, Dirty: true, Data: data(3)}}),
		of(2, []api.Way{{Line: 16}, {Line: 0, Dirty: true}}),
		of(2, []api.Way{{Line: 32, Data: data(1)}, {Line: 0, Dirty: true}}, []api.Way{{Line: 48, Dirty: true, Data: data(2)}}),
		of(2, []api.Way{{Line: 64}}, []api.Way{{Line: 16}, {Line: 80}}, []api.Way{{Line: 32, Data: data(7)}}, []api.Way{{Line: 0xfffffff0}}),
	}
}

// P10.1: Right.
func TestRight(t *testing.T) {
	for name, c := range bad() {
		if cache.Right(c) {
			t.Errorf("%s: it may not be", name)
		}
	}
	for _, c := range good() {
		if !cache.Right(c) {
			t.Errorf("%+v: it may be", c)
		}
	}
}

// Of a cache that may not be all answer with it, and zero else.
func TestBad(t *testing.T) {
	for name, c := range bad() {
		for _, line := range []uint32{0, 8, 16, 17, 32, 48, 49, 80} {
			kept := copied(c)
			if s, p, ok := cache.Find(c, line); s != 0 || p != 0 || ok {
				t.Errorf("%s: Find(%d) = %d, %d, %v", name, line, s, p, ok)
			}
			if got := cache.Touch(c, line); !same(got, kept) {
				t.Errorf("%s: Touch", name)
			}
			if got, w, ok := cache.Put(c, line, data(9), true); !same(got, kept) || w != (api.Way{}) || ok {
				t.Errorf("%s: Put", name)
			}
			if got, ok := cache.Write(c, line, "a"); !same(got, kept) || ok {
				t.Errorf("%s: Write", name)
			}
			if got := cache.Clean(c, line); !same(got, kept) {
				t.Errorf("%s: Clean", name)
			}
		}
		dirty := copied(c)
		for k := range dirty.Sets {
			for j := range dirty.Sets[k] {
				dirty.Sets[k][j].Dirty = true
			}
		}
		if w, ok := cache.Dirty(dirty); w != (api.Way{}) || ok {
			t.Errorf("%s: Dirty", name)
		}
		if got := cache.Tags(c); len(got) != 0 {
			t.Errorf("%s: Tags %+v", name, got)
		}
	}
}

// P10.1: Find, of addresses within the line and beside it.
func TestFind(t *testing.T) {
	c := of(2, []api.Way{{Line: 32}, {Line: 0}}, []api.Way{{Line: 48, Data: data(1)}})
	for _, x := range []struct {
		line       uint32
		set, place int
		ok         bool
	}{
		{32, 0, 0, true}, {47, 0, 0, true}, {0, 0, 1, true}, {15, 0, 1, true}, {48, 1, 0, true}, {63, 1, 0, true},
		{16, 1, 0, false}, {31, 1, 0, false}, {64, 0, 0, false}, {80, 1, 0, false}, {0xffffffff, 1, 0, false}, {0xffffffe0, 0, 0, false},
	} {
		if s, p, ok := cache.Find(c, x.line); s != x.set || p != x.place || ok != x.ok {
			t.Errorf("Find(%d) = %d, %d, %v", x.line, s, p, ok)
		}
	}
	four := cache.New(4, 1)
	for line, set := range map[uint32]int{0: 0, 16: 1, 32: 2, 48: 3, 64: 0, 0xffffffff: 3, 0x80000010: 1} {
		if s, p, ok := cache.Find(four, line); s != set || p != 0 || ok {
			t.Errorf("Find(%d) of four: %d, %d, %v", line, s, p, ok)
		}
	}
}

// P10.2: Touch.
func TestTouch(t *testing.T) {
	a, b := api.Way{Line: 32, Dirty: true, Data: data(1)}, api.Way{Line: 0, Data: data(2)}
	other := []api.Way{{Line: 16}, {Line: 48}}
	for _, x := range []struct {
		line uint32
		want []api.Way
	}{{32, []api.Way{a, b}}, {40, []api.Way{a, b}}, {0, []api.Way{b, a}}, {15, []api.Way{b, a}}, {64, []api.Way{a, b}}} {
		c := of(2, []api.Way{a, b}, other)
		kept := copied(c)
		if got := cache.Touch(c, x.line); !same(got, of(2, x.want, other)) {
			t.Errorf("Touch(%d): %+v", x.line, got)
		}
		if !same(c, kept) {
			t.Errorf("Touch(%d) changes its argument", x.line)
		}
	}
}

// P10.2: Put of a line that stands there.
func TestPutThere(t *testing.T) {
	for _, was := range []bool{false, true} {
		for _, dirty := range []bool{false, true} {
			for _, d := range []string{"", "x", data(9)[:15], data(9) + "x", data(9)} {
				for _, had := range []string{"", data(1)} {
					c := of(2, []api.Way{{Line: 0}, {Line: 16, Dirty: was, Data: had}})
					kept := copied(c)
					want := api.Way{Line: 16, Dirty: was || dirty, Data: had}
					if len(d) == 16 {
						want.Data = d
					}
					got, w, ok := cache.Put(c, 19, d, dirty)
					if !same(got, of(2, []api.Way{want, {Line: 0}})) || w != (api.Way{}) || ok {
						t.Errorf("Put(%q,%v) on %q,%v: %+v, %+v, %v", d, dirty, had, was, got, w, ok)
					}
					if !same(c, kept) {
						t.Error("Put changes its argument")
					}
				}
			}
		}
	}
}

// P10.2: Put of a line that does not, with room and without.
func TestPutNew(t *testing.T) {
	for _, dirty := range []bool{false, true} {
		for _, d := range []string{"", "x", data(9)[:15], data(9) + "x", data(9)} {
			want := api.Way{Line: 48, Dirty: dirty}
			if len(d) == 16 {
				want.Data = d
			}
			old := api.Way{Line: 16, Dirty: !dirty, Data: data(1)}
			older := api.Way{Line: 80, Dirty: dirty, Data: data(2)}
			for _, x := range []struct {
				ways       int
				was, after []api.Way
				gone       api.Way
				goes       bool
			}{
				{2, nil, []api.Way{want}, api.Way{}, false},
				{1, nil, []api.Way{want}, api.Way{}, false},
				{2, []api.Way{old}, []api.Way{want, old}, api.Way{}, false},
				{1, []api.Way{old}, []api.Way{want}, old, true},
				{2, []api.Way{old, older}, []api.Way{want, old}, older, true},
			} {
				c := of(x.ways, []api.Way{{Line: 0}}, x.was)
				kept := copied(c)
				got, w, ok := cache.Put(c, 63, d, dirty)
				if !same(got, of(x.ways, []api.Way{{Line: 0}}, x.after)) || w != x.gone || ok != x.goes {
					t.Errorf("Put(%q,%v) on %+v: %+v, %+v, %v", d, dirty, x.was, got, w, ok)
				}
				if !same(c, kept) {
					t.Error("Put changes its argument")
				}
			}
		}
	}
}

func TestExamples(t *testing.T) {
	c := cache.New(1, 2)
	c, _, _ = cache.Put(c, 0, data(1), false)
	c, _, _ = cache.Put(c, 16, data(2), false)
	c = cache.Touch(c, 0)
	c, w, ok := cache.Put(c, 32, data(3), false)
	if w != (api.Way{Line: 16, Data: data(2)}) || !ok {
		t.Errorf("what goes: %+v, %v", w, ok)
	}
	if w, ok := cache.Dirty(c); ok {
		t.Errorf("dirty: %+v", w)
	}
	c, ok = cache.Write(c, 3, "ab")
	if !ok {
		t.Error("not written")
	}
	if w, ok := cache.Dirty(c); !ok || w != (api.Way{Line: 0, Dirty: true, Data: "\x01\x01\x01ab" + data(1)[5:]}) {
		t.Errorf("dirty: %+v, %v", w, ok)
	}
}

// P10.3: Write up to the line's end and beyond it, to lines with data and without.
func TestWrite(t *testing.T) {
	first, second := api.Way{Line: 0, Data: data(1)}, api.Way{Line: 16, Data: data(2)}
	for from := 0; from < 16; from++ {
		for n := 0; n < 20; n++ {
			bytes := strings.Repeat("z", n)
			c := of(2, []api.Way{first, second})
			kept := copied(c)
			got, ok := cache.Write(c, uint32(16+from), bytes)
			if !same(c, kept) {
				t.Fatal("Write changes its argument")
			}
			if n > 16-from {
				if ok || !same(got, kept) {
					t.Errorf("%d bytes at %d: %+v, %v", n, from, got, ok)
				}
				continue
			}
			want := api.Way{Line: 16, Dirty: true, Data: data(2)[:from] + bytes + data(2)[from+n:]}
			if !ok || !same(got, of(2, []api.Way{want, first})) {
				t.Errorf("%d bytes at %d: %+v, %v", n, from, got, ok)
			}
		}
	}
	empty := of(2, []api.Way{first, {Line: 16}})
	for _, addr := range []uint32{16, 20, 32, 0xffffffff} {
		if got, ok := cache.Write(empty, addr, "a"); ok || !same(got, empty) {
			t.Errorf("Write at %d without data", addr)
		}
	}
}

// P10.3: Clean changes one line's Dirty and nothing else.
func TestClean(t *testing.T) {
	was := []api.Way{{Line: 0, Dirty: true, Data: data(1)}, {Line: 32, Dirty: true}}
	other := []api.Way{{Line: 48, Dirty: true}}
	for _, x := range []struct {
		line  uint32
		dirty [3]bool
	}{{0, [3]bool{false, true, true}}, {33, [3]bool{true, false, true}}, {63, [3]bool{true, true, false}}, {16, [3]bool{true, true, true}}, {64, [3]bool{true, true, true}}} {
		c := of(2, slices.Clone(was), slices.Clone(other))
		kept := copied(c)
		want := copied(c)
		want.Sets[0][0].Dirty, want.Sets[0][1].Dirty, want.Sets[1][0].Dirty = x.dirty[0], x.dirty[1], x.dirty[2]
		if got := cache.Clean(c, x.line); !same(got, want) {
			t.Errorf("Clean(%d): %+v", x.line, got)
		}
		if !same(c, kept) {
			t.Error("Clean changes its argument")
		}
	}
}

// P10.3: Dirty is the first one by sets, then by places.
func TestDirty(t *testing.T) {
	for n := 0; n < 16; n++ {
		c := of(2, []api.Way{{Line: 0}, {Line: 32}}, []api.Way{{Line: 48, Data: data(4)}, {Line: 16}})
		all := []*api.Way{&c.Sets[0][0], &c.Sets[0][1], &c.Sets[1][0], &c.Sets[1][1]}
		var want api.Way
		for k, w := range all {
			w.Dirty = n>>uint(k)&1 == 1
			if w.Dirty && !want.Dirty {
				want = *w
			}
		}
		if w, ok := cache.Dirty(c); w != want || ok != (n > 0) {
			t.Errorf("Dirty(%+v) = %+v, %v", c, w, ok)
		}
	}
}

// P10.4: Tags have all but Data.
func TestTags(t *testing.T) {
	for _, c := range good() {
		got := cache.Tags(c)
		want := copied(c).Sets
		for k := range want {
			for j := range want[k] {
				want[k][j].Data = ""
			}
		}
		if !same(api.Cache{Sets: got}, api.Cache{Sets: want}) {
			t.Errorf("Tags(%+v) = %+v", c, got)
		}
	}
}

// line is one of the model below: when it was touched last, and what it has.
type line struct {
	when  int
	dirty bool
	data  string
}

// P10.5: many calls, held against a model that keeps the time at which each line was touched.
func TestAgainstModel(t *testing.T) {
	r := rand.New(rand.NewSource(15))
	for _, shape := range [][2]int{{1, 1}, {1, 2}, {2, 1}, {2, 2}, {4, 1}, {4, 2}} {
		sets, ways := shape[0], shape[1]
		c := cache.New(sets, ways)
		model := map[uint32]line{}
		for when := 1; when < 3000; when++ {
			addr := uint32(r.Intn(200))
			at := addr / 16 * 16
			old, there := model[at]
			d := []string{"", data(byte(when)), "odd"}[r.Intn(3)]
			dirty := r.Intn(3) == 0
			switch r.Intn(4) {
			case 0:
				c = cache.Touch(c, addr)
				if there {
					old.when = when
					model[at] = old
				}
			case 1:
				var gone api.Way
				var goes bool
				c, gone, goes = cache.Put(c, addr, d, dirty)
				checkGone(t, model, at, sets, ways, gone, goes)
				if goes {
					delete(model, gone.Line)
				}
				if len(d) == 16 {
					old.data = d
				}
				model[at] = line{when, old.dirty || dirty, old.data}
			case 2:
				var ok bool
				bytes := strings.Repeat("w", r.Intn(4))
				c, ok = cache.Write(c, addr, bytes)
				from := int(addr - at)
				if ok != (there && old.data != "" && from+len(bytes) <= 16) {
					t.Fatalf("Write at %d: %v", addr, ok)
				}
				if ok {
					model[at] = line{when, true, old.data[:from] + bytes + old.data[from+len(bytes):]}
				}
			case 3:
				c = cache.Clean(c, addr)
				if there {
					old.dirty = false
					model[at] = old
				}
			}
			checkAll(t, c, model)
		}
	}
}

// checkGone: what goes is the line of the set that was touched longest ago, and only where there is no room.
func checkGone(t *testing.T, model map[uint32]line, at uint32, sets, ways int, gone api.Way, goes bool) {
	t.Helper()
	var oldest uint32
	n := 0
	for l, x := range model {
		if int(l/16)%sets != int(at/16)%sets {
			continue
		}
		if n == 0 || x.when < model[oldest].when {
			oldest = l
		}
		n++
	}
	_, there := model[at]
	if goes != (!there && n == ways) {
		t.Fatalf("Put of %d: goes %v with %d lines", at, goes, n)
	}
	want := api.Way{}
	if goes {
		want = api.Way{Line: oldest, Dirty: model[oldest].dirty, Data: model[oldest].data}
	}
	if gone != want {
		t.Fatalf("Put of %d: %+v goes, not %+v", at, gone, want)
	}
}

func checkAll(t *testing.T, c api.Cache, model map[uint32]line) {
	t.Helper()
	if !cache.Right(c) {
		t.Fatalf("it may not be: %+v", c)
	}
	n := 0
	for _, set := range c.Sets {
		for k, w := range set {
			n++
			x, ok := model[w.Line]
			if !ok || w.Dirty != x.dirty || w.Data != x.data {
				t.Fatalf("%+v, not %+v", w, x)
			}
			if k > 0 && model[set[k-1].Line].when < x.when {
				t.Fatalf("order of %+v", set)
			}
			if s, p, ok := cache.Find(c, w.Line+15); !ok || p != k || !slices.Equal(c.Sets[s], set) {
				t.Fatalf("Find of %d", w.Line)
			}
		}
	}
	if n != len(model) {
		t.Fatalf("%d lines, not %d", n, len(model))
	}
}
