package taint_test

import (
	"math"
	"math/rand"
	"slices"
	"testing"

	"auspex/api"
	"auspex/taint"
)

func add(rd, a, b int) api.Entry {
	return api.Entry{Inst: api.Inst{Op: api.Add, Rd: rd, Rs1: a, Rs2: b}}
}

func load(rd, a int, known bool) api.Entry {
	return api.Entry{Inst: api.Inst{Op: api.Lw, Rd: rd, Rs1: a}, Known: known}
}

func jump(known bool) api.Entry {
	return api.Entry{Inst: api.Inst{Op: api.Beq}, Known: known}
}

// P14.1: Safe of each op, with each Halt, known or not; what it is doing is no matter.
func TestSafe(t *testing.T) {
	for op := -1; op < 60; op++ {
		for _, halt := range []int{0, 1, 3, 7, 8, -1, math.MinInt} {
			for _, known := range []bool{false, true} {
				for _, is := range []int{api.EWait, api.EGoes, api.EBus, api.EDone, 9} {
					e := api.Entry{Inst: api.Inst{Op: op, Rd: 1}, Halt: halt, Known: known, Is: is, Filled: !known}
					want := halt == 0 && op != api.Ecall && op != api.Ebreak
					if op >= api.Lb && op <= api.Sw || op >= api.Jal && op <= api.Bgeu {
						want = want && known
					}
					if got := taint.Safe(e); got != want {
						t.Errorf("Safe(%+v) = %v", e, got)
					}
				}
			}
		}
	}
}

// P14.1: Front and Visible, with the unsafe entry at each place, or none.
func TestFrontAndVisible(t *testing.T) {
	unsafe := []api.Entry{jump(false), load(1, 0, false), {Inst: api.Inst{Op: api.Ebreak}}, {Halt: api.HWord, Is: api.EDone}, {Inst: api.Inst{Op: api.Sb}}}
	for n := 0; n <= 8; n++ {
		for at := 0; at <= n; at++ {
			for _, u := range unsafe {
				var rob []api.Entry
				for k := range n {
					rob = append(rob, []api.Entry{add(1, 2, 3), jump(true), load(1, 2, true)}[k%3])
				}
				if at < n {
					rob[at] = u
				}
				if got := taint.Front(rob); got != at {
					t.Fatalf("Front of %d with %d: %d", n, at, got)
				}
				for _, i := range []int{math.MinInt, -1, 0, 1, 2, 3, 4, 5, 6, 7, 8, 9, math.MaxInt} {
					if got := taint.Visible(rob, i); got != (i >= 0 && i <= at) {
						t.Fatalf("Visible(%d of %d, unsafe %d) = %v", i, n, at, got)
					}
				}
			}
		}
	}
	if taint.Front([]api.Entry{jump(true), jump(false), jump(false)}) != 1 {
		t.Error("the first one of two")
	}
}

// P14.2: Roots, by hand.
func TestRoots(t *testing.T) {
	store := api.Entry{Inst: api.Inst{Op: api.Sw, Rs1: 1, Rs2: 2}}
	for _, x := range []struct {
		name string
		rob  []api.Entry
		want []int
	}{
		{"none", nil, nil},
		{"example", []api.Entry{jump(false), load(1, 0, false), add(2, 1, 0)}, []int{-1, 1, 1}},
		{"example, known", []api.Entry{jump(true), load(1, 0, false), add(2, 1, 0)}, []int{-1, -1, -1}},
		{"example, the load too", []api.Entry{jump(true), load(1, 0, true), add(2, 1, 0)}, []int{-1, -1, -1}},
		{"a known load that is not visible", []api.Entry{jump(false), load(1, 0, true)}, []int{-1, 1}},
		{"the greater one", []api.Entry{jump(false), load(1, 0, false), load(2, 0, false), add(3, 1, 2), add(4, 2, 1)}, []int{-1, 1, 2, 2, 2}},
		{"of a load itself, whatever it reads", []api.Entry{jump(false), load(1, 0, false), load(2, 1, false)}, []int{-1, 1, 2}},
		{"a visible load ahead of one that is not", []api.Entry{load(1, 0, false), load(2, 1, false), add(3, 1, 0), add(4, 1, 2)}, []int{-1, 1, -1, 1}},
		{"through others", []api.Entry{jump(false), load(1, 0, false), add(2, 1, 0), add(3, 0, 2), add(4, 3, 3)}, []int{-1, 1, 1, 1, 1}},
		{"written anew", []api.Entry{jump(false), load(1, 0, false), add(1, 0, 0), add(2, 1, 1)}, []int{-1, 1, -1, -1}},
		{"stores and jumps have roots too", []api.Entry{jump(false), load(1, 0, false), store, {Inst: api.Inst{Op: api.Bne, Rs1: 1}}}, []int{-1, 1, 1, 1}},
		{"a load to register 0", []api.Entry{jump(false), load(0, 0, false), add(1, 0, 0)}, []int{-1, 1, -1}},
		{"fields count where they are not read", []api.Entry{jump(false), load(1, 0, false), {Inst: api.Inst{Op: api.Lui, Rd: 2, Rs2: 1}}}, []int{-1, 1, 1}},
		{"registers that there are not", []api.Entry{jump(false), load(40, 0, false), add(2, 40, -1)}, []int{-1, 1, -1}},
		{"reads its own register", []api.Entry{jump(false), load(1, 0, false), add(1, 1, 0), add(2, 1, 0)}, []int{-1, 1, 1, 1}},
		{"a halt ahead", []api.Entry{{Halt: api.HFetch, Is: api.EDone}, load(1, 0, true)}, []int{-1, 1}},
	} {
		kept := slices.Clone(x.rob)
		if got := taint.Roots(x.rob); !slices.Equal(got, x.want) {
			t.Errorf("%s: %v, not %v", x.name, got, x.want)
		}
		if !slices.Equal(x.rob, kept) {
			t.Errorf("%s: the entries are changed", x.name)
		}
	}
}

// P14.2: Tainted of any i and any register.
func TestTainted(t *testing.T) {
	rob := []api.Entry{load(5, 0, true), jump(false), load(1, 0, false), add(2, 1, 0), add(3, 5, 0), add(1, 0, 0)}
	for _, i := range []int{math.MinInt, -1, 0, 1, 2, 3, 4, 5, 6, 7, math.MaxInt} {
		for _, reg := range []int{math.MinInt, -1, 0, 1, 2, 3, 5, 6, 31, 32, math.MaxInt} {
			want := reg == 1 && i >= 3 && i <= 5 || reg == 2 && i >= 4
			if got := taint.Tainted(rob, i, reg); got != want {
				t.Errorf("Tainted(%d, %d) = %v", i, reg, got)
			}
		}
	}
	if taint.Tainted(nil, 0, 1) || taint.Tainted(nil, 5, 1) {
		t.Error("of no entries")
	}
}

func anyRob(r *rand.Rand) []api.Entry {
	ops := []int{api.Add, api.Addi, api.Lw, api.Lb, api.Sw, api.Beq, api.Jalr, api.Div, api.Mul}
	var rob []api.Entry
	for range r.Intn(9) {
		i := api.Inst{Op: ops[r.Intn(len(ops))], Rd: r.Intn(4), Rs1: r.Intn(4), Rs2: r.Intn(4)}
		rob = append(rob, api.Entry{Inst: i, Known: r.Intn(3) > 0})
	}
	return rob
}

func isLoad(e api.Entry) bool { return e.Inst.Op == api.Lw || e.Inst.Op == api.Lb }

func writes(e api.Entry) int {
	if e.Inst.Op == api.Sw || e.Inst.Op == api.Beq {
		return 0
	}
	return e.Inst.Rd
}

// hangs asks for a root by going back through all makers: the greatest load that is not visible.
func hangs(rob []api.Entry, i int) int {
	if isLoad(rob[i]) {
		for _, e := range rob[:i] {
			if !taint.Safe(e) {
				return i
			}
		}
		return -1
	}
	best := -1
	for _, reg := range []int{rob[i].Inst.Rs1, rob[i].Inst.Rs2} {
		for k := i - 1; k >= 0 && reg > 0; k-- {
			if writes(rob[k]) == reg {
				best = max(best, hangs(rob, k))
				break
			}
		}
	}
	return best
}

// P14.2, P14.3: roots of many rows, and what follows.
func TestWhatFollows(t *testing.T) {
	r := rand.New(rand.NewSource(20))
	for range 4000 {
		rob := anyRob(r)
		roots := taint.Roots(rob)
		if len(roots) != len(rob) {
			t.Fatal("one root an entry")
		}
		for i := range rob {
			if want := hangs(rob, i); roots[i] != want {
				t.Fatalf("root of %d: %d, not %d, of %+v", i, roots[i], want, rob)
			}
			if k := roots[i]; k > i || k >= 0 && (!isLoad(rob[k]) || taint.Visible(rob, k)) {
				t.Fatalf("root of %d: %d", i, k)
			}
			if !taint.Visible(rob, i) {
				continue
			}
			if i > 0 && !taint.Visible(rob, i-1) {
				t.Fatal("ahead of a visible one")
			}
			if taint.Tainted(rob, i, rob[i].Inst.Rs1) || taint.Tainted(rob, i, rob[i].Inst.Rs2) {
				t.Fatal("a visible one reads what is tainted")
			}
		}
		more := slices.Clone(rob)
		for k := range more {
			more[k].Known = more[k].Known || r.Intn(3) == 0
		}
		for i, root := range taint.Roots(more) {
			if root >= 0 && roots[i] < 0 || taint.Visible(rob, i) && !taint.Visible(more, i) {
				t.Fatal("with more entries known")
			}
		}
	}
}
