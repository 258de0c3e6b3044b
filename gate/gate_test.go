package gate_test

import (
	"math"
	"math/rand"
	"slices"
	"testing"

	"auspex/api"
	"auspex/gate"
)

func entry(op, rd, a, b int, known bool) api.Entry {
	return api.Entry{Inst: api.Inst{Op: op, Rd: rd, Rs1: a, Rs2: b}, Known: known}
}

func isMem(op int) bool { return op >= api.Lb && op <= api.Sw }

func tells(op int) bool {
	return isMem(op) || op >= api.Jal && op <= api.Bgeu || op >= api.Div && op <= api.Remu
}

// P15.1: Tells and Needs of each op, whatever else stands of the entry.
func TestTellsAndNeeds(t *testing.T) {
	for op := -1; op < 60; op++ {
		for _, e := range []api.Entry{entry(op, 1, 2, 3, false), entry(op, 0, 0, 0, true), entry(op, -1, 40, -5, true), {Inst: api.Inst{Op: op}, Halt: 3, Is: api.EDone}} {
			if got := gate.Tells(e); got != tells(op) {
				t.Errorf("Tells(%+v) = %v", e, got)
			}
			want := []int{e.Inst.Rs1, e.Inst.Rs2}
			if isMem(op) {
				want = want[:1]
			}
			if got := gate.Needs(e); !slices.Equal(got, want) {
				t.Errorf("Needs(%+v) = %v", e, got)
			}
		}
	}
}

// behind is what May answers in the three modes of the last entry of a row.
func behind(rob ...api.Entry) [3]bool {
	i := len(rob) - 1
	return [3]bool{gate.May(api.MOff, rob, i), gate.May(api.MTaint, rob, i), gate.May(api.MStrict, rob, i)}
}

// P15.2: May of the chapter's examples, and of each kind of entry behind a load that may be undone.
func TestMay(t *testing.T) {
	j, lw := entry(api.Beq, 0, 0, 0, false), entry(api.Lw, 1, 0, 0, false)
	all, two, one := [3]bool{true, true, true}, [3]bool{true, true, false}, [3]bool{true, false, false}
	for _, x := range []struct {
		name string
		rob  []api.Entry
		want [3]bool
	}{
		{"alone", []api.Entry{lw}, all},
		{"example", []api.Entry{j, lw}, two},
		{"example, second", []api.Entry{j, lw, entry(api.Lw, 2, 1, 0, false)}, one},
		{"a load's Rs2 is no need", []api.Entry{j, lw, entry(api.Lw, 2, 0, 1, false)}, two},
		{"a store's address", []api.Entry{j, lw, entry(api.Sw, 0, 1, 0, false)}, one},
		{"a store's value is no need", []api.Entry{j, lw, entry(api.Sw, 0, 0, 1, false)}, two},
		{"a division", []api.Entry{j, lw, entry(api.Div, 2, 1, 0, false)}, one},
		{"a division by it", []api.Entry{j, lw, entry(api.Remu, 2, 0, 1, false)}, one},
		{"a division of others", []api.Entry{j, lw, entry(api.Div, 2, 3, 4, false)}, two},
		{"a branch", []api.Entry{j, lw, entry(api.Bne, 0, 0, 1, false)}, one},
		{"a jump by a register", []api.Entry{j, lw, entry(api.Jalr, 0, 1, 0, false)}, one},
		{"a jump", []api.Entry{j, lw, entry(api.Jal, 1, 0, 0, false)}, two},
		{"arithmetic", []api.Entry{j, lw, entry(api.Add, 2, 1, 1, false)}, all},
		{"a product", []api.Entry{j, lw, entry(api.Mul, 2, 1, 1, false)}, all},
		{"a fence", []api.Entry{j, lw, entry(api.Fence, 0, 0, 0, false)}, all},
		{"a halt", []api.Entry{j, lw, entry(api.Ebreak, 0, 0, 0, false)}, all},
		{"through arithmetic", []api.Entry{j, lw, entry(api.Add, 2, 0, 1, false), entry(api.Lw, 3, 2, 0, false)}, one},
		{"a known jump", []api.Entry{entry(api.Beq, 0, 0, 0, true), lw, entry(api.Lw, 2, 1, 0, false)}, two},
		{"all known", []api.Entry{entry(api.Beq, 0, 0, 0, true), entry(api.Lw, 1, 0, 0, true), entry(api.Lw, 2, 1, 0, false)}, all},
	} {
		kept := slices.Clone(x.rob)
		if got := behind(x.rob...); got != x.want {
			t.Errorf("%s: %v, not %v", x.name, got, x.want)
		}
		if !slices.Equal(x.rob, kept) {
			t.Errorf("%s: the entries are changed", x.name)
		}
	}
}

// P15.2: no entry, and no mode.
func TestOdd(t *testing.T) {
	rob := []api.Entry{entry(api.Lw, 1, 0, 0, false), entry(api.Add, 1, 0, 0, false)}
	for _, mode := range []int{math.MinInt, -1, 0, 1, 2, 3, 4, math.MaxInt} {
		for _, i := range []int{math.MinInt, -1, 2, 3, math.MaxInt} {
			if gate.May(mode, rob, i) || gate.May(mode, nil, 0) {
				t.Errorf("mode %d, entry %d", mode, i)
			}
		}
		if got := gate.May(mode, rob, 0); got != (mode >= 0 && mode <= 2) {
			t.Errorf("mode %d of a load: %v", mode, got)
		}
		if !gate.May(mode, rob, 1) {
			t.Errorf("mode %d of an entry that does not tell", mode)
		}
	}
}

// P15.3: the modes stand in a row; the first entry may; what may once may with more known.
func TestWhatFollows(t *testing.T) {
	r := rand.New(rand.NewSource(21))
	ops := []int{api.Add, api.Lw, api.Lb, api.Sw, api.Beq, api.Jalr, api.Div, api.Mul, api.Ebreak}
	held := 0
	for range 4000 {
		var rob []api.Entry
		for range 1 + r.Intn(8) {
			rob = append(rob, entry(ops[r.Intn(len(ops))], r.Intn(4), r.Intn(4), r.Intn(4), r.Intn(3) > 0))
		}
		more := slices.Clone(rob)
		for k := range more {
			more[k].Known = more[k].Known || r.Intn(3) == 0
		}
		for i := range rob {
			off, middle, strict := gate.May(api.MOff, rob, i), gate.May(api.MTaint, rob, i), gate.May(api.MStrict, rob, i)
			if strict && !middle || middle && !off || i == 0 && !strict {
				t.Fatalf("entry %d: %v, %v, %v", i, off, middle, strict)
			}
			if off && !middle {
				held++
			}
			for mode, may := range []bool{off, middle, strict} {
				if may && !gate.May(mode, more, i) {
					t.Fatalf("mode %d: entry %d may no more", mode, i)
				}
			}
		}
	}
	if held < 100 {
		t.Errorf("only %d held", held)
	}
}
