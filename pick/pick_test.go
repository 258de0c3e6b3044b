package pick_test

import (
	"math"
	"math/rand"
	"slices"
	"testing"

	"auspex/api"
	"auspex/pick"
)

const (
	P = api.KPlain
	M = api.KMul
	D = api.KDiv
	L = api.KLoad
	S = api.KStore
	J = api.KJump
	H = api.KHalt
)

func all(n int) []bool { return slices.Repeat([]bool{true}, n) }

// P17.1: by hand.
func TestPick(t *testing.T) {
	for _, x := range []struct {
		name  string
		width int
		busy  bool
		kinds []int
		can   []bool
		want  []int
	}{
		{"example", 2, false, []int{L, L, P}, all(3), []int{0, 2}},
		{"nothing", 2, false, nil, nil, nil},
		{"none can", 2, false, []int{P, P}, []bool{false, false}, nil},
		{"only those that can", 2, false, []int{P, P, P, P}, []bool{false, true, false, true}, []int{1, 3}},
		{"as many as the width", 2, false, []int{P, P, P}, all(3), []int{0, 1}},
		{"width 1", 1, false, []int{P, P, P}, all(3), []int{0}},
		{"width 0", 0, false, []int{P}, all(1), nil},
		{"width below 0", -1, false, []int{P}, all(1), nil},
		{"width far below 0", math.MinInt, false, []int{P}, all(1), nil},
		{"any width", math.MaxInt, false, []int{P, M, J, H, P}, all(5), []int{0, 1, 2, 3, 4}},
		{"one division", 5, false, []int{D, D, P, D}, all(4), []int{0, 2}},
		{"busy", 5, true, []int{D, P, D}, all(3), []int{1}},
		{"busy, with loads", 5, true, []int{D, L, S, P}, all(4), []int{1, 3}},
		{"a load or a store", 5, false, []int{S, L, S, P}, all(4), []int{0, 3}},
		{"a division and a load", 5, false, []int{L, D, S, D, M}, all(5), []int{0, 1, 4}},
		{"one that can't takes no unit", 5, false, []int{L, L, D, D}, []bool{false, true, false, true}, []int{1, 3}},
		{"products, jumps and halts are others", 9, true, []int{M, M, J, J, H, H}, all(6), []int{0, 1, 2, 3, 4, 5}},
		{"kinds that there are not are others", 9, true, []int{-1, 7, 7, math.MaxInt, math.MinInt}, all(5), []int{0, 1, 2, 3, 4}},
		{"without kinds", 3, true, nil, all(5), []int{0, 1, 2}},
		{"with too few kinds", 9, false, []int{L, L}, all(4), []int{0, 2, 3}},
		{"with too many kinds", 9, false, []int{P, L, L, P}, []bool{true, true}, []int{0, 1}},
	} {
		kinds, can := slices.Clone(x.kinds), slices.Clone(x.can)
		if got := pick.Pick(x.width, x.busy, x.kinds, x.can); !slices.Equal(got, x.want) {
			t.Errorf("%s: %v, not %v", x.name, got, x.want)
		}
		if !slices.Equal(kinds, x.kinds) || !slices.Equal(can, x.can) {
			t.Errorf("%s: an argument is changed", x.name)
		}
	}
}

// allowed tells of a row of taken ones whether one more may be taken.
func allowed(width int, busy bool, kinds []int, taken []int, k int) bool {
	if len(taken) >= width {
		return false
	}
	for _, x := range taken {
		if kinds[x] == D && kinds[k] == D || (kinds[x] == L || kinds[x] == S) && (kinds[k] == L || kinds[k] == S) {
			return false
		}
	}
	return !busy || kinds[k] != D
}

// P17.1, P17.2: many rows: each is taken just if it can and those ahead of it leave room; those behind are no matter.
func TestWhatFollows(t *testing.T) {
	r := rand.New(rand.NewSource(23))
	for range 5000 {
		n, width, busy := r.Intn(9), r.Intn(5)-1, r.Intn(2) == 0
		var kinds []int
		var can []bool
		for range n {
			kinds, can = append(kinds, r.Intn(7)), append(can, r.Intn(4) > 0)
		}
		got := pick.Pick(width, busy, kinds, can)
		var want []int
		for k := range n {
			if can[k] && allowed(width, busy, kinds, want, k) {
				want = append(want, k)
			}
		}
		if !slices.Equal(got, want) {
			t.Fatalf("Pick(%d,%v,%v,%v) = %v, not %v", width, busy, kinds, can, got, want)
		}
		if first := slices.Index(can, true); first >= 0 && width > 0 && !(busy && kinds[first] == D) && (len(got) == 0 || got[0] != first) {
			t.Fatalf("the first one that can: %v", got)
		}
		cut := r.Intn(n + 1)
		short := pick.Pick(width, busy, kinds, can[:cut])
		if !slices.Equal(short, slices.DeleteFunc(slices.Clone(got), func(k int) bool { return k >= cut })) {
			t.Fatalf("those behind %d are a matter: %v, %v", cut, got, short)
		}
	}
}
