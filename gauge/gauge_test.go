package gauge_test

import (
	"math"
	"math/big"
	"math/rand"
	"slices"
	"strconv"
	"testing"

	"auspex/api"
	"auspex/core"
	"auspex/gauge"
)

var (
	none  = math.NaN()
	inf   = math.Inf(1)
	below = math.Inf(-1)
	minus = math.Copysign(0, -1)
)

// alike holds two rates against each other to the bit; all that are none are alike.
func alike(a, b float64) bool {
	return a != a && b != b || math.Float64bits(a) == math.Float64bits(b)
}

// row are rates in order, each ahead of the next one.
func row() []float64 {
	return []float64{
		none, below, -math.MaxFloat64, -1e12, -2, -1, -0.5, -math.SmallestNonzeroFloat64, minus,
		0, math.SmallestNonzeroFloat64, 0.5, 1, math.Nextafter(1, 2), 2, 1e12, math.MaxFloat64, inf,
	}
}

// P24.1: Rate, of numbers and of 0.
func TestRate(t *testing.T) {
	for _, x := range []struct {
		n, of int
		want  float64
	}{
		{0, 0, none}, {1, 0, inf}, {-1, 0, below}, {math.MinInt, 0, below}, {math.MaxInt, 0, inf}, {0, 5, 0}, {0, -5, minus}, {2, 4, 0.5}, {-2, 4, -0.5}, {2, -4, -0.5},
		{1, 3, 1.0 / 3.0}, {7, 1, 7}, {math.MaxInt, 1, 9223372036854775808.0}, {math.MinInt, math.MinInt, 1}, {1<<53 + 1, 1, 1 << 53}, {3, 2, 1.5},
	} {
		if got := gauge.Rate(x.n, x.of); !alike(got, x.want) {
			t.Errorf("Rate(%d,%d) = %v", x.n, x.of, got)
		}
	}
}

// P24.1: Of counts what retired, and cycles.
func TestOf(t *testing.T) {
	steps := make([]api.Step, 3)
	for _, x := range []struct {
		c    api.Core
		want float64
	}{
		{api.Core{}, none}, {api.Core{Retired: steps}, inf}, {api.Core{Retired: steps, Cycle: 2}, 1.5}, {api.Core{Cycle: 7}, 0}, {api.Core{Retired: steps, Cycle: -2}, -1.5},
		{api.Core{Retired: steps, Cycle: 12, Asked: 5, Next: 9}, 0.25},
	} {
		if got := gauge.Of(x.c); !alike(got, x.want) {
			t.Errorf("Of %d retired in %d: %v", len(x.c.Retired), x.c.Cycle, got)
		}
	}
	c := core.Run(api.Conf{}, []uint32{0x00500093, 0x00100073}, "", 40)
	if got := gauge.Text(gauge.Of(c)); got != "0.050" {
		t.Errorf("of a run: %s", got)
	}
}

// P24.2, P24.5: Order of each two of a row, turned and handed on.
func TestOrder(t *testing.T) {
	l := row()
	for i, a := range l {
		for j, b := range l {
			want := 0
			if i < j {
				want = -1
			}
			if i > j {
				want = 1
			}
			if got := gauge.Order(a, b); got != want {
				t.Errorf("Order(%v,%v) = %d", a, b, got)
			}
		}
	}
	other := math.Float64frombits(0xfff8000000000123)
	if gauge.Order(none, other) != 0 || gauge.Order(other, none) != 0 || gauge.Order(other, below) != -1 || gauge.Order(below, other) != 1 {
		t.Error("all that are none are alike")
	}
	if gauge.Order(minus, 0) != -1 || gauge.Order(none, below) != -1 {
		t.Error("examples")
	}
}

// P24.3, P24.5: Most, in whatever order.
func TestMost(t *testing.T) {
	if !alike(gauge.Most(), none) || !alike(gauge.Most(none), none) || !alike(gauge.Most(none, none), none) {
		t.Error("none")
	}
	for _, x := range row() {
		if !alike(gauge.Most(x), x) || !alike(gauge.Most(none, x), x) || !alike(gauge.Most(x, none), x) {
			t.Errorf("Most of %v", x)
		}
	}
	if !alike(gauge.Most(minus, 0), 0) || !alike(gauge.Most(0, minus), 0) || !alike(gauge.Most(minus, -1), minus) || !alike(gauge.Most(below, below), below) {
		t.Error("zeros")
	}
	r := rand.New(rand.NewSource(33))
	for range 500 {
		l := row()
		top := 1 + r.Intn(len(l))
		l = l[:top]
		want := l[top-1]
		r.Shuffle(top, func(i, j int) { l[i], l[j] = l[j], l[i] })
		kept := slices.Clone(l)
		got := gauge.Most(l...)
		if !alike(got, want) || !slices.EqualFunc(l, kept, alike) {
			t.Fatalf("Most(%v) = %v", l, got)
		}
		for _, x := range l {
			if gauge.Order(got, x) < 0 {
				t.Fatalf("%v stands behind %v", x, got)
			}
		}
	}
}

// P24.3: Mean, one by one from 0 on.
func TestMean(t *testing.T) {
	for _, x := range []struct {
		l    []float64
		want float64
	}{
		{nil, none}, {[]float64{none}, none}, {[]float64{1, none, 2}, none}, {[]float64{inf, below}, none}, {[]float64{inf, 1}, inf}, {[]float64{3, below}, below},
		{[]float64{1, 2}, 1.5}, {[]float64{1, 2, 6}, 3}, {[]float64{minus}, 0}, {[]float64{minus, minus}, 0}, {[]float64{0}, 0}, {[]float64{-5}, -5},
		{[]float64{1e16, 1, -1e16}, 0}, {[]float64{1e16, -1e16, 1}, 1.0 / 3.0}, {[]float64{math.MaxFloat64, math.MaxFloat64}, inf}, {[]float64{math.MaxFloat64, math.MaxFloat64, below}, none},
		{[]float64{math.MaxFloat64, math.MaxFloat64, -math.MaxFloat64}, inf},
	} {
		if got := gauge.Mean(x.l...); !alike(got, x.want) {
			t.Errorf("Mean(%v) = %v", x.l, got)
		}
	}
}

// P24.4: Text, by hand.
func TestText(t *testing.T) {
	for _, x := range []struct {
		x    float64
		want string
	}{
		{none, "none"}, {inf, "inf"}, {below, "-inf"}, {1e12, "inf"}, {-1e12, "-inf"}, {math.MaxFloat64, "inf"}, {-math.MaxFloat64, "-inf"}, {1e300, "inf"},
		{math.Nextafter(1e12, 0), "999999999999.999"}, {-math.Nextafter(1e12, 0), "-999999999999.999"}, {999999999999, "999999999999.000"}, {999999999999.5, "999999999999.500"},
		{0, "0.000"}, {minus, "-0.000"}, {1, "1.000"}, {-1, "-1.000"}, {0.5, "0.500"}, {-0.5, "-0.500"}, {2.0 / 3.0, "0.666"}, {-2.0 / 3.0, "-0.666"},
		{0.0009, "0.000"}, {-0.0009, "-0.000"}, {0.001, "0.001"}, {0.0625, "0.062"}, {12.0625, "12.062"}, {1234567.875, "1234567.875"}, {0.999999, "0.999"},
		{math.Nextafter(1, 0), "0.999"}, {math.Nextafter(1, 2), "1.000"}, {math.SmallestNonzeroFloat64, "0.000"}, {-math.SmallestNonzeroFloat64, "-0.000"},
		{0.29, "0.290"}, {1.001, "1.000"}, {4.035, "4.035"}, {100, "100.000"}, {0.05, "0.050"}, {0.007, "0.007"},
	} {
		if got := gauge.Text(x.x); got != x.want {
			t.Errorf("Text(%v) = %s, not %s", x.x, got, x.want)
		}
	}
	if gauge.Text(gauge.Rate(0, 0)) != "none" || gauge.Text(gauge.Rate(-1, 0)) != "-inf" || gauge.Text(gauge.Rate(2, 3)) != "0.666" {
		t.Error("examples")
	}
}

// written writes a rate by numbers as exact as they come: only what is left, times 1000, is rounded as float64s are.
func written(x float64) string {
	sign := ""
	if math.Signbit(x) {
		sign, x = "-", -x
	}
	whole, _ := new(big.Float).SetFloat64(x).Int(nil)
	rest := new(big.Rat).Sub(new(big.Rat).SetFloat64(x), new(big.Rat).SetInt(whole))
	thousand, _ := rest.Mul(rest, big.NewRat(1000, 1)).Float64()
	part := strconv.FormatFloat(math.Trunc(thousand), 'f', 0, 64)
	for len(part) < 3 {
		part = "0" + part
	}
	return sign + whole.String() + "." + part
}

// P24.4: Text of many numbers.
func TestTextOfMany(t *testing.T) {
	r := rand.New(rand.NewSource(34))
	for range 20000 {
		x := gauge.Rate(r.Intn(4000)-1000, 1+r.Intn(2000))
		if r.Intn(2) == 0 {
			x = math.Ldexp(r.Float64()-0.5, r.Intn(50)-10)
		}
		if math.Abs(x) >= 1e12 {
			continue
		}
		if got := gauge.Text(x); got != written(x) {
			t.Fatalf("Text(%v) = %s, not %s", x, got, written(x))
		}
	}
}
