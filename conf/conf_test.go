package conf_test

import (
	"math"
	"math/rand"
	"slices"
	"testing"

	"auspex/api"
	"auspex/conf"
)

// field is a number of a shape, and its bounds.
type field struct {
	name        string
	at          func(*api.Conf) *int
	least, most int
}

func fields() []field {
	return []field{
		{"Mode", func(c *api.Conf) *int { return &c.Mode }, 0, 2},
		{"Width", func(c *api.Conf) *int { return &c.Width }, 1, 2},
		{"Rob", func(c *api.Conf) *int { return &c.Rob }, 2, 8},
		{"Queue", func(c *api.Conf) *int { return &c.Queue }, 1, 4},
		{"Stores", func(c *api.Conf) *int { return &c.Stores }, 1, 4},
		{"Slots", func(c *api.Conf) *int { return &c.Slots }, 2, 6},
		{"Sets", func(c *api.Conf) *int { return &c.Sets }, 1, 4},
		{"Ways", func(c *api.Conf) *int { return &c.Ways }, 1, 2},
	}
}

func least() api.Conf {
	return api.Conf{Width: 1, Rob: 2, Queue: 1, Stores: 1, Slots: 2, Sets: 1, Ways: 1}
}

func same(a, b api.Conf) bool {
	return a.Mode == b.Mode && a.Width == b.Width && a.Rob == b.Rob && a.Queue == b.Queue && a.Stores == b.Stores &&
		a.Slots == b.Slots && a.Sets == b.Sets && a.Ways == b.Ways && a.Tables == b.Tables &&
		slices.Equal(a.Lat, b.Lat) && slices.Equal(a.Tape, b.Tape)
}

func numbers(n, v int) []int {
	l := make([]int, n)
	for k := range l {
		l[k] = v
	}
	return l
}

// P8.1, P8.4: each number by itself, within its bounds and beyond.
func TestEachNumber(t *testing.T) {
	for _, f := range fields() {
		for _, n := range []int{math.MinInt, -5, -1, 0, 1, 2, 3, 4, 5, 6, 7, 8, 9, 100, 1 << 32, math.MaxInt} {
			c := least()
			*f.at(&c) = n
			want, ok := n, true
			if n < f.least {
				want, ok = f.least, false
			}
			if n > f.most {
				want, ok = f.most, false
			}
			if f.name == "Sets" && n == 3 {
				want, ok = 2, false
			}
			if conf.Right(c) != ok {
				t.Errorf("%s %d: Right %v", f.name, n, !ok)
			}
			cleaned := least()
			*f.at(&cleaned) = want
			if got := conf.Clean(c); !same(got, cleaned) || !conf.Right(got) {
				t.Errorf("%s %d: %+v", f.name, n, got)
			}
		}
	}
}

func TestCleanZero(t *testing.T) {
	if got := conf.Clean(api.Conf{}); !same(got, least()) {
		t.Errorf("%+v", got)
	}
	if conf.Right(api.Conf{}) || !conf.Right(least()) {
		t.Error("Right")
	}
}

// P8.1: Lat and Tape, as many as may be and more, and what stays as it is.
func TestTapes(t *testing.T) {
	c := least()
	c.Lat = []int{-3, 0, 1, 2, 8, 9, math.MinInt, math.MaxInt}
	c.Tape = []uint32{0, 1, math.MaxUint32}
	c.Tables = true
	kept := slices.Clone(c.Lat)
	got := conf.Clean(c)
	want := least()
	want.Lat, want.Tape, want.Tables = []int{1, 1, 1, 2, 8, 8, 1, 8}, c.Tape, true
	if !same(got, want) {
		t.Errorf("%+v", got)
	}
	if !slices.Equal(c.Lat, kept) {
		t.Error("the argument's Lat is changed")
	}
	for _, n := range []int{0, 1, 63, 64, 65, 200} {
		c := least()
		c.Lat, c.Tape = numbers(n, 3), nil
		if conf.Right(c) != (n <= 64) || len(conf.Clean(c).Lat) != min(n, 64) {
			t.Errorf("Lat of %d", n)
		}
		c.Lat, c.Tape = nil, make([]uint32, n)
		if conf.Right(c) != (n <= 64) || len(conf.Clean(c).Tape) != min(n, 64) {
			t.Errorf("Tape of %d", n)
		}
	}
	for _, n := range []int{-1, 0, 9} {
		c := least()
		c.Lat = []int{1, 8, n, 2}
		if conf.Right(c) {
			t.Errorf("Lat with %d", n)
		}
	}
	long := make([]uint32, 70)
	for k := range long {
		long[k] = uint32(k)
	}
	if got := conf.Clean(api.Conf{Tape: long}).Tape; !slices.Equal(got, long[:64]) {
		t.Errorf("the first ones stay: %v", got)
	}
}

// P8.2: Lat and Tape by their number, going round; of any shape, cleaned.
func TestLatAndTape(t *testing.T) {
	for _, k := range []int{math.MinInt, -1, 0, 1, 5, math.MaxInt} {
		if conf.Lat(api.Conf{}, k) != 1 {
			t.Errorf("Lat of none, %d", k)
		}
		if conf.Tape(api.Conf{}, k, 8) != 12 || conf.Tape(api.Conf{}, k, 0xfffffffc) != 0 || conf.Tape(api.Conf{}, k, 0xffffffff) != 3 {
			t.Errorf("Tape of none, %d", k)
		}
	}
	c := api.Conf{Lat: []int{3, 5}, Tape: []uint32{100, 200, 300}}
	if conf.Lat(c, 3) != 5 || conf.Lat(c, 2) != 3 || conf.Lat(c, 0) != 3 || conf.Lat(c, -1) != 3 || conf.Lat(c, math.MinInt) != 3 || conf.Lat(c, math.MaxInt) != 5 {
		t.Error("Lat 3, 5")
	}
	for k, want := range []uint32{100, 200, 300, 100, 200} {
		if conf.Tape(c, k, 8) != want {
			t.Errorf("Tape %d: %d", k, conf.Tape(c, k, 8))
		}
	}
	if conf.Tape(c, -1, 8) != 100 || conf.Tape(c, math.MaxInt, 8) != c.Tape[math.MaxInt%3] {
		t.Error("Tape beyond")
	}
	odd := api.Conf{Lat: []int{0, 99, 4}}
	if conf.Lat(odd, 0) != 1 || conf.Lat(odd, 1) != 8 || conf.Lat(odd, 2) != 4 {
		t.Error("Lat that is cleaned")
	}
	long := api.Conf{Lat: numbers(65, 2), Tape: make([]uint32, 65)}
	long.Lat[64], long.Lat[0], long.Tape[64], long.Tape[0] = 7, 3, 7, 9
	if conf.Lat(long, 64) != 3 || conf.Tape(long, 64, 0) != 9 || conf.Lat(long, 63) != 2 {
		t.Error("beyond 64")
	}
}

// P8.2: Most.
func TestMost(t *testing.T) {
	for _, x := range []struct {
		lat  []int
		want int
	}{
		{nil, 1}, {[]int{-4}, 1}, {[]int{1}, 1}, {[]int{3, 5, 2}, 5}, {[]int{5, 3}, 5}, {[]int{2, 3}, 3}, {[]int{8}, 8}, {[]int{2, 100}, 8},
	} {
		if got := conf.Most(api.Conf{Lat: x.lat}); got != x.want {
			t.Errorf("Most of %v: %d", x.lat, got)
		}
	}
	if got := conf.Most(api.Conf{Lat: append(numbers(64, 2), 7)}); got != 2 {
		t.Errorf("Most beyond 64: %d", got)
	}
}

// P8.3: Bound and Drain, of shapes at the edges.
func TestBoundAndDrain(t *testing.T) {
	for _, x := range []struct {
		c            api.Conf
		bound, drain int
	}{
		{api.Conf{}, 124, 60 + 2*8*2*4},
		{api.Conf{Stores: 4, Slots: 6, Sets: 4, Ways: 2, Lat: []int{8, 2}}, 60 + 22*9*7, 60 + 2*22*9*14},
		{api.Conf{Stores: 2, Slots: 3, Sets: 2, Ways: 1, Lat: []int{2}}, 60 + 11*3*5, 60 + 2*11*3*6},
		{api.Conf{Stores: 3, Slots: 4, Sets: 3, Ways: 2, Lat: []int{3}}, 60 + 15*4*6, 60 + 2*15*4*9},
		{api.Conf{Stores: 100, Slots: 100, Sets: 100, Ways: 100, Lat: []int{100}, Rob: 50, Width: 9}, 60 + 22*9*7, 60 + 2*22*9*14},
	} {
		if got := conf.Bound(x.c); got != x.bound {
			t.Errorf("Bound(%+v) = %d, not %d", x.c, got, x.bound)
		}
		if got := conf.Drain(x.c); got != x.drain {
			t.Errorf("Drain(%+v) = %d, not %d", x.c, got, x.drain)
		}
	}
}

// P8.4: what is cleaned may be, and what may be stays.
func TestWhatFollows(t *testing.T) {
	r := rand.New(rand.NewSource(13))
	right := 0
	for range 3000 {
		c := api.Conf{Tables: r.Intn(2) == 0}
		spread := 1 + r.Intn(2)
		for _, f := range fields() {
			n := f.least + r.Intn(f.most-f.least+spread)
			if spread == 2 {
				n -= r.Intn(3)
			}
			*f.at(&c) = n
		}
		for range r.Intn(5) {
			c.Lat = append(c.Lat, r.Intn(7*spread)+2-spread)
			c.Tape = append(c.Tape, r.Uint32())
		}
		d := conf.Clean(c)
		if !conf.Right(d) || !same(conf.Clean(d), d) {
			t.Fatalf("cleaned: %+v", d)
		}
		if conf.Right(c) != same(c, d) {
			t.Fatalf("Right of %+v", c)
		}
		if conf.Right(c) {
			right++
		}
	}
	if right < 300 {
		t.Errorf("only %d may be", right)
	}
}
