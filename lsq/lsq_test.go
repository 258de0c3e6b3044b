package lsq_test

import (
	"math"
	"math/rand"
	"slices"
	"strings"
	"testing"

	"auspex/api"
	"auspex/lsq"
	"auspex/view"
)

// places are those of n bytes at a, as far as they are small enough to be written down.
func places(a uint32, n int) map[uint64]bool {
	out := map[uint64]bool{}
	for k := 0; k < n; k++ {
		out[uint64(a)+uint64(k)] = true
	}
	return out
}

// P16.1: Laps and Holds, by the places themselves, also at the end of numbers.
func TestLapsAndHolds(t *testing.T) {
	addrs := []uint32{0, 1, 2, 3, 4, 5, 8, 0x7ffffffe, 0x80000000, 0xfffffffc, 0xfffffffd, 0xfffffffe, 0xffffffff}
	sizes := []int{math.MinInt, -3, -1, 0, 1, 2, 3, 4, 5, 8}
	for _, a := range addrs {
		for _, n := range sizes {
			first := places(a, n)
			for _, b := range addrs {
				for _, m := range sizes {
					laps, holds := false, m > 0
					for p := range places(b, m) {
						laps = laps || first[p]
						holds = holds && first[p]
					}
					if got := lsq.Laps(a, n, b, m); got != laps {
						t.Errorf("Laps(%x,%d,%x,%d) = %v", a, n, b, m, got)
					}
					if got := lsq.Holds(a, n, b, m); got != holds {
						t.Errorf("Holds(%x,%d,%x,%d) = %v", a, n, b, m, got)
					}
				}
			}
		}
	}
}

// P16.1: sizes that no sum has room for.
func TestLargeSizes(t *testing.T) {
	most, end := math.MaxInt, uint32(math.MaxUint32)
	for _, x := range []struct {
		a           uint32
		n           int
		b           uint32
		m           int
		laps, holds bool
	}{
		{0, most, 0, most, true, true}, {0, most, end, 1, true, true}, {1, most, 0, 1, false, false}, {end, most, 0, most, true, false},
		{0, most, 1, most, true, false}, {1, most, 1, most, true, true}, {0, most, 1, most - 1, true, true}, {end, most, end, most, true, true},
		{end, 1, 0, most, true, false}, {0, most, end, most, true, false}, {0, most, end, most - int(end), true, true}, {0, most, end, most - int(end) + 1, true, false},
		{0, math.MinInt, 0, most, false, false}, {0, most, 0, math.MinInt, false, false}, {end, math.MinInt, 0, math.MinInt, false, false},
		{0, 1 << 32, end, 1, true, true}, {0, 1<<32 - 1, end, 1, false, false},
	} {
		if got := lsq.Laps(x.a, x.n, x.b, x.m); got != x.laps {
			t.Errorf("Laps(%x,%d,%x,%d) = %v", x.a, x.n, x.b, x.m, got)
		}
		if got := lsq.Holds(x.a, x.n, x.b, x.m); got != x.holds {
			t.Errorf("Holds(%x,%d,%x,%d) = %v", x.a, x.n, x.b, x.m, got)
		}
	}
}

func store(op int, at uint32, is int, value uint32) api.Entry {
	return api.Entry{Inst: api.Inst{Op: op}, Known: true, Addr: at, Is: is, Value: value}
}

func load(op int, at uint32) api.Entry {
	return api.Entry{Inst: api.Inst{Op: op, Rd: 1}, Known: true, Addr: at}
}

type decided struct {
	name   string
	rob    []api.Entry
	stores []api.Put
	what   int
	bytes  string
}

func check(t *testing.T, xs []decided) {
	t.Helper()
	for _, x := range xs {
		rob, stores := slices.Clone(x.rob), slices.Clone(x.stores)
		what, bytes := lsq.Decide(x.rob, x.stores, len(x.rob)-1)
		if what != x.what || bytes != x.bytes {
			t.Errorf("%s: %d, %q", x.name, what, bytes)
		}
		if !slices.Equal(rob, x.rob) || !slices.Equal(stores, x.stores) {
			t.Errorf("%s: an argument is changed", x.name)
		}
	}
}

// P16.2: stores ahead that are entries.
func TestDecideEntries(t *testing.T) {
	unknown := store(api.Sw, 100, api.EWait, 0)
	unknown.Known = false
	halted := store(api.Sw, 100, api.EDone, 0)
	halted.Halt = api.HStore
	lw := load(api.Lw, 8)
	check(t, []decided{
		{"nothing ahead", []api.Entry{lw}, nil, api.LMem, ""},
		{"example: all of it", []api.Entry{store(api.Sw, 8, api.EDone, 5), lw}, nil, api.LTake, "\x05\x00\x00\x00"},
		{"example: a byte of it", []api.Entry{store(api.Sb, 8, api.EDone, 5), lw}, nil, api.LWait, ""},
		{"example: not known", []api.Entry{unknown, lw}, nil, api.LWait, ""},
		{"halted", []api.Entry{halted, lw}, nil, api.LWait, ""},
		{"elsewhere", []api.Entry{store(api.Sw, 12, api.EDone, 5), store(api.Sw, 4, api.EWait, 5), lw}, nil, api.LMem, ""},
		{"there, but not done", []api.Entry{store(api.Sw, 8, api.EWait, 5), lw}, nil, api.LWait, ""},
		{"there, on its way", []api.Entry{store(api.Sw, 8, api.EGoes, 5), lw}, nil, api.LWait, ""},
		{"a part, not done", []api.Entry{store(api.Sh, 10, api.EWait, 5), lw}, nil, api.LWait, ""},
		{"the last one first", []api.Entry{store(api.Sw, 8, api.EDone, 5), store(api.Sw, 8, api.EDone, 6), lw}, nil, api.LTake, "\x06\x00\x00\x00"},
		{"the last one first, not done", []api.Entry{store(api.Sw, 8, api.EDone, 5), store(api.Sw, 8, api.EWait, 6), lw}, nil, api.LWait, ""},
		{"the last one first, a part", []api.Entry{store(api.Sw, 8, api.EDone, 5), store(api.Sb, 11, api.EDone, 6), lw}, nil, api.LWait, ""},
		{"a part that all goes over", []api.Entry{store(api.Sb, 11, api.EDone, 6), store(api.Sw, 8, api.EDone, 5), lw}, nil, api.LTake, "\x05\x00\x00\x00"},
		{"not known beats what is taken", []api.Entry{unknown, store(api.Sw, 8, api.EDone, 5), lw}, nil, api.LWait, ""},
		{"behind a store that may be taken", []api.Entry{store(api.Sw, 8, api.EDone, 5), unknown, lw}, nil, api.LWait, ""},
		{"a byte within", []api.Entry{store(api.Sw, 8, api.EDone, 0x04030201), load(api.Lbu, 10)}, nil, api.LTake, "\x03"},
		{"a half within", []api.Entry{store(api.Sw, 8, api.EDone, 0x04030201), load(api.Lh, 10)}, nil, api.LTake, "\x03\x04"},
		{"a half of a half", []api.Entry{store(api.Sh, 10, api.EDone, 0xffff0201), load(api.Lhu, 10)}, nil, api.LTake, "\x01\x02"},
		{"a byte of a byte", []api.Entry{store(api.Sb, 10, api.EDone, 0xffffff01), load(api.Lb, 10)}, nil, api.LTake, "\x01"},
		{"a load ahead is no store", []api.Entry{{Inst: api.Inst{Op: api.Lw}}, {Inst: api.Inst{Op: api.Beq}}, lw}, nil, api.LMem, ""},
		{"a load ahead of the same place is none", []api.Entry{{Inst: api.Inst{Op: api.Lw}, Known: true, Addr: 8, Is: api.EDone, Value: 9}, {Inst: api.Inst{Op: api.Lb}, Addr: 8}, lw}, nil, api.LMem, ""},
		{"a load between", []api.Entry{store(api.Sw, 8, api.EDone, 5), {Inst: api.Inst{Op: api.Lw}, Known: true, Addr: 8, Is: api.EDone, Value: 9}, lw}, nil, api.LTake, "\x05\x00\x00\x00"},
		{"places do not go round", []api.Entry{store(api.Sw, 0xfffffffe, api.EDone, 5), load(api.Lb, 0)}, nil, api.LMem, ""},
		{"at the end of numbers", []api.Entry{store(api.Sw, 0xfffffffc, api.EDone, 0x09000000), load(api.Lb, 0xffffffff)}, nil, api.LTake, "\x09"},
	})
	for i, want := range []int{api.LMem, api.LWait, api.LWait} {
		rob := []api.Entry{lw, unknown, lw}
		if what, bytes := lsq.Decide(rob, nil, i); what != want || bytes != "" {
			t.Errorf("entry %d: %d, %q", i, what, bytes)
		}
	}
}

// P16.2: retired stores, behind those of entries.
func TestDecideRetired(t *testing.T) {
	lw := load(api.Lw, 8)
	check(t, []decided{
		{"all of it", []api.Entry{lw}, []api.Put{{Addr: 8, Data: "abcd"}}, api.LTake, "abcd"},
		{"more than it", []api.Entry{lw}, []api.Put{{Addr: 6, Data: "uvabcdxyz"}}, api.LTake, "abcd"},
		{"a part", []api.Entry{lw}, []api.Put{{Addr: 10, Data: "ab"}}, api.LWait, ""},
		{"elsewhere", []api.Entry{lw}, []api.Put{{Addr: 12, Data: "ab"}, {Addr: 4, Data: "abcd"}}, api.LMem, ""},
		{"empty", []api.Entry{lw}, []api.Put{{Addr: 8}}, api.LMem, ""},
		{"the last one first", []api.Entry{lw}, []api.Put{{Addr: 8, Data: "abcd"}, {Addr: 8, Data: "efgh"}}, api.LTake, "efgh"},
		{"the last one first, a part", []api.Entry{lw}, []api.Put{{Addr: 8, Data: "abcd"}, {Addr: 8, Data: "e"}}, api.LWait, ""},
		{"an entry first", []api.Entry{store(api.Sw, 8, api.EDone, 5), lw}, []api.Put{{Addr: 8, Data: "abcd"}}, api.LTake, "\x05\x00\x00\x00"},
		{"an entry first, a part", []api.Entry{store(api.Sb, 8, api.EDone, 5), lw}, []api.Put{{Addr: 8, Data: "abcd"}}, api.LWait, ""},
		{"behind an entry elsewhere", []api.Entry{store(api.Sw, 4, api.EWait, 5), lw}, []api.Put{{Addr: 8, Data: "abcd"}}, api.LTake, "abcd"},
		{"a byte", []api.Entry{load(api.Lb, 9)}, []api.Put{{Addr: 8, Data: "abcd"}}, api.LTake, "b"},
		{"at the end of numbers", []api.Entry{load(api.Lb, 0)}, []api.Put{{Addr: 0xfffffffe, Data: "abcd"}}, api.LMem, ""},
	})
}

// P16.2: whatever else stands of the load counts nothing; what is no load waits.
func TestDecideOdd(t *testing.T) {
	for _, e := range []api.Entry{{}, {Is: api.EDone}, {Is: api.EBus, Known: true}, {Halt: api.HLoad}, {Known: true, Filled: true, Left: 4, Value: 9}} {
		e.Inst, e.Addr = api.Inst{Op: api.Lw}, 8
		if what, bytes := lsq.Decide([]api.Entry{e}, []api.Put{{Addr: 8, Data: "abcd"}}, 0); what != api.LTake || bytes != "abcd" {
			t.Errorf("%+v: %d, %q", e, what, bytes)
		}
		if what, bytes := lsq.Decide([]api.Entry{e}, nil, 0); what != api.LMem || bytes != "" {
			t.Errorf("%+v: %d, %q", e, what, bytes)
		}
	}
	for op := -1; op < 60; op++ {
		if op >= api.Lb && op <= api.Lhu {
			continue
		}
		e := api.Entry{Inst: api.Inst{Op: op}, Known: true, Addr: 8}
		if what, bytes := lsq.Decide([]api.Entry{e}, []api.Put{{Addr: 8, Data: "abcd"}}, 0); what != api.LWait || bytes != "" {
			t.Errorf("op %d: %d, %q", op, what, bytes)
		}
	}
	for _, i := range []int{math.MinInt, -1, 1, 2, math.MaxInt} {
		if what, bytes := lsq.Decide([]api.Entry{load(api.Lw, 8)}, []api.Put{{Addr: 8, Data: "abcd"}}, i); what != api.LWait || bytes != "" {
			t.Errorf("entry %d: %d, %q", i, what, bytes)
		}
	}
	if what, bytes := lsq.Decide(nil, nil, 0); what != api.LWait || bytes != "" {
		t.Errorf("no entries: %d, %q", what, bytes)
	}
}

// P16.3: what is taken, or is no store's, is what memory with all stores written into it has there.
func TestWhatFollows(t *testing.T) {
	r := rand.New(rand.NewSource(22))
	sizes := map[int]int{api.Sb: 1, api.Sh: 2, api.Sw: 4, api.Lb: 1, api.Lh: 2, api.Lw: 4}
	count := map[int]int{}
	for range 20000 {
		memory := []string{strings.Repeat("m", 16), strings.Repeat("M", 16)}[r.Intn(2)]
		var stores []api.Put
		for range r.Intn(3) {
			n := []int{1, 2, 4}[r.Intn(3)]
			stores = append(stores, api.Put{Addr: uint32(r.Intn(16/n) * n), Data: strings.Repeat(string(rune('a'+r.Intn(26))), n)})
		}
		all := slices.Clone(stores)
		var rob []api.Entry
		for range r.Intn(4) {
			op := api.Sb + r.Intn(3)
			n := sizes[op]
			e := store(op, uint32(r.Intn(16/n)*n), []int{api.EDone, api.EDone, api.EWait}[r.Intn(3)], r.Uint32())
			e.Known = r.Intn(12) > 0
			rob = append(rob, e)
			bytes := []byte{byte(e.Value), byte(e.Value >> 8), byte(e.Value >> 16), byte(e.Value >> 24)}
			all = append(all, api.Put{Addr: e.Addr, Data: string(bytes[:n])})
		}
		op := api.Lb + r.Intn(3)
		n := sizes[op]
		at := r.Intn(16/n) * n
		i := len(rob)
		rob = append(rob, load(op, uint32(at)), store(api.Sw, uint32(at/4*4), api.EDone, 77))
		what, bytes := lsq.Decide(rob, stores, i)
		count[what]++
		have := view.Over(memory, all...)[at : at+n]
		switch what {
		case api.LTake:
			if bytes != have {
				t.Fatalf("takes %q, not %q", bytes, have)
			}
		case api.LMem:
			if bytes != "" || have != memory[at:at+n] {
				t.Fatalf("goes to memory, where a store has %q", have)
			}
		default:
			if bytes != "" {
				t.Fatalf("waits with %q", bytes)
			}
		}
	}
	for what := range 3 {
		if count[what] < 1000 {
			t.Errorf("%v", count)
		}
	}
}
