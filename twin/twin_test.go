package twin_test

import (
	"math"
	"math/rand"
	"slices"
	"strings"
	"testing"

	"auspex/api"
	"auspex/conf"
	"auspex/inst"
	"auspex/mem"
	"auspex/seq"
	"auspex/trace"
	"auspex/twin"
	"auspex/watch"
)

// encoded are the words of instructions; a test that asks for one that may not be is wrong itself.
func encoded(is ...api.Inst) []uint32 {
	var out []uint32
	for _, i := range is {
		w, e := inst.Encode(i)
		if e != api.OK {
			panic("no word tells an instruction of a test")
		}
		out = append(out, w)
	}
	return out
}

// P23.1: Far, of cycles within their bounds and beyond, by the shape as it is cleaned.
func TestFar(t *testing.T) {
	for _, x := range []struct {
		c    api.Conf
		n    int
		want int
	}{
		{api.Conf{}, 10, 12}, {api.Conf{}, 0, 2}, {api.Conf{}, -1, 2}, {api.Conf{}, math.MinInt, 2}, {api.Conf{}, 1999, 2001}, {api.Conf{}, 2000, 2002},
		{api.Conf{}, 2001, 2002}, {api.Conf{}, math.MaxInt, 2002}, {api.Conf{Width: 2, Rob: 8}, 10, 28}, {api.Conf{Width: 2, Rob: 5}, 7, 19},
		{api.Conf{Width: 9, Rob: 99}, 10, 28}, {api.Conf{Width: 2, Rob: 8}, math.MaxInt, 4008}, {api.Conf{Width: -3, Rob: 4}, 3, 7},
	} {
		if got := twin.Far(x.c, x.n); got != x.want {
			t.Errorf("Far(%+v, %d) = %d, not %d", x.c, x.n, got, x.want)
		}
	}
}

// late loads a byte at 4 as its step number n, counted from 0 on, and then goes on for a while.
func late(n int) []uint32 {
	is := slices.Repeat([]api.Inst{{Op: api.Addi, Rd: 1, Rs1: 1, Imm: 1}}, n)
	is = append(is, api.Inst{Op: api.Lbu, Rd: 2, Imm: 4})
	is = append(is, slices.Repeat([]api.Inst{{Op: api.Addi, Rd: 1, Rs1: 1, Imm: 1}}, 40)...)
	return encoded(append(is, api.Inst{Op: api.Ebreak})...)
}

// P23.1: Agree up to Far, and not one event less; of the whole program, also behind 64 words.
func TestAgreeUpToFar(t *testing.T) {
	c := api.Conf{Width: 1, Rob: 4}
	for _, at := range []int{0, 4, 9, 30, 80} {
		prog := late(at)
		for n := -1; n < 100; n++ {
			far := max(n, 0) + 4
			same, ok := twin.Agree(c, prog, "aaaaaaaa", "aaaabaaa", n, true)
			want := min(far, at)
			if same != want || ok != (far <= at) {
				t.Fatalf("apart at %d, %d cycles: %d, %v", at, n, same, ok)
			}
			same, ok = twin.Agree(c, prog, "aaaaaaaa", "aaaabaaa", n, false)
			if want := min(far, at+42); same != want || !ok {
				t.Fatalf("the other contract, %d cycles: %d, %v", n, same, ok)
			}
		}
	}
}

// P23.1: ends, and lengths of memory.
func TestAgreeEnds(t *testing.T) {
	branch := encoded(api.Inst{Op: api.Lbu, Rd: 1, Imm: 4}, api.Inst{Op: api.Sltu, Rd: 2, Rs2: 1}, api.Inst{Op: api.Fence}, api.Inst{Op: api.Beq, Rs1: 2, Imm: 8}, api.Inst{Op: api.Fence}, api.Inst{Op: api.Ebreak})
	loads := encoded(api.Inst{Op: api.Lbu, Rd: 1, Imm: 4}, api.Inst{Op: api.Lb, Rs1: 1}, api.Inst{Op: api.Ebreak})
	for _, x := range []struct {
		name   string
		prog   []uint32
		m, w   string
		loaded bool
		same   int
		ok     bool
	}{
		{"one memory twice", late(3), "abc", "abc", true, 12, true},
		{"halts alike", branch, "aaaabaaa", "aaaacaaa", false, 6, true},
		{"halts alike, but not in what was loaded", branch, "aaaabaaa", "aaaacaaa", true, 0, false},
		{"goes another way", branch, "aaaabaaa", "aaaa\x00aaa", false, 4, false},
		{"one halts where the other one does not", loads, "aaaa\x05aaa", "aaaa\x80aaa", false, 1, false},
		{"other addresses", loads, "aaaa\x05aaa", "aaaa\x06aaa", false, 1, false},
		{"as many bytes, cleaned", branch, "aaaab", "aaaab" + strings.Repeat("\x00", 11), true, 6, true},
		{"not as many bytes", branch, "aaaab", "aaaab" + strings.Repeat("\x00", 12), true, 6, false},
		{"not as many bytes, and never ending", encoded(api.Inst{Op: api.Jal}), "", strings.Repeat("\x00", 17), true, 12, false},
		{"more bytes than count", branch, strings.Repeat("a", 256), strings.Repeat("a", 300), true, 6, true},
		{"nothing but a halt", nil, "a", "b", true, 1, true},
		{"never ending", encoded(api.Inst{Op: api.Jal}), "a", "b", true, 12, true},
	} {
		if same, ok := twin.Agree(api.Conf{Width: 1, Rob: 4}, x.prog, x.m, x.w, 8, x.loaded); same != x.same || ok != x.ok {
			t.Errorf("%s: %d, %v", x.name, same, ok)
		}
	}
	if same, ok := twin.Agree(api.Conf{}, encoded(api.Inst{Op: api.Jal}), "a", "a", math.MaxInt, true); same != 2002 || !ok {
		t.Errorf("without end: %d, %v", same, ok)
	}
}

// P23.1: Run tells what Agree tells, and where they are seen apart.
func TestRun(t *testing.T) {
	prog := encoded(api.Inst{Op: api.Lbu, Rd: 1, Imm: 4}, api.Inst{Op: api.Lbu, Rd: 2, Rs1: 1}, api.Inst{Op: api.Ebreak})
	m, w := strings.Repeat("\x10", 64), strings.Repeat("\x20", 64)
	c := api.Conf{Lat: []int{3}}
	for _, n := range []int{-3, 0, 1, 9, 10, 11, 12, 60} {
		for _, loaded := range []bool{false, true} {
			for _, other := range []string{m, w} {
				got := twin.Run(c, prog, m, other, n, loaded)
				same, far := twin.Agree(c, prog, m, other, n, loaded)
				_, a := watch.Run(c, prog, m, n)
				_, b := watch.Run(c, prog, other, n)
				if got != (api.Twin{Agree: same, Far: far, First: watch.First(a, b)}) {
					t.Errorf("%d cycles: %+v", n, got)
				}
			}
		}
	}
	if got := twin.Run(c, prog, m, m, 60, true); got != (api.Twin{Agree: 3, Far: true, First: -1}) {
		t.Errorf("one memory twice: %+v", got)
	}
	got := twin.Run(c, prog, m, w, 60, false)
	if got.Agree != 1 || got.Far || got.First < 5 {
		t.Errorf("other addresses: %+v", got)
	}
	if first := got.First; twin.Run(c, prog, m, w, first, false).First != -1 || twin.Run(c, prog, m, w, first+1, false).First != first {
		t.Errorf("apart at %d", first)
	}
}

// P6, P23.2: the known programs, in each mode: by which contract they agree far enough, and where they are seen apart.
func TestShow(t *testing.T) {
	for _, x := range []struct {
		which       int
		time, whole bool
		apart       [3]int // by mode: 1 seen apart, -1 not, 0 either
	}{
		{0, true, true, [3]int{1, -1, -1}},
		{1, true, false, [3]int{1, 1, -1}},
		{2, true, false, [3]int{0, 0, -1}},
	} {
		p, w, ok := twin.Show(x.which)
		if !ok || len(w) != len(p.Mem) || p.Mem != mem.Clean(p.Mem) || !conf.Right(p.Conf) || len(p.Prog) > api.MaxProg || p.Cycles < 0 || p.Cycles > api.MaxCycles {
			t.Errorf("%d: %+v, %d bytes, %v", x.which, p, len(w), ok)
		}
		for mode := range 3 {
			p.Conf.Mode = mode
			byTime, byAll := twin.Run(p.Conf, p.Prog, p.Mem, w, p.Cycles, false), twin.Run(p.Conf, p.Prog, p.Mem, w, p.Cycles, true)
			if byTime.Far != x.time || byAll.Far != x.whole || byTime.First != byAll.First {
				t.Errorf("%d, mode %d: %+v, %+v", x.which, mode, byTime, byAll)
			}
			if x.apart[mode] == 1 && byTime.First < 0 || x.apart[mode] == -1 && byTime.First != -1 {
				t.Errorf("%d, mode %d: %+v", x.which, mode, byTime)
			}
		}
	}
	p, w, _ := twin.Show(2)
	a, _ := seq.Run(p.Prog, p.Mem, 10000)
	b, _ := seq.Run(p.Prog, w, 10000)
	if a.Halt == 0 || b.Halt == 0 || a.Regs == b.Regs {
		t.Errorf("registers of the third one: %v, %v", a.Regs, b.Regs)
	}
}

// P6: the byte of the first known program is never loaded, that of the second one is, and is no address.
func TestShowBytes(t *testing.T) {
	for which := range 2 {
		p, w, _ := twin.Show(which)
		_, steps := seq.Run(p.Prog, p.Mem, 10000)
		loads := false
		for k := range p.Mem {
			for _, s := range steps {
				loads = loads || p.Mem[k] != w[k] && s.Size > 0 && int(s.Addr) <= k && k < int(s.Addr)+s.Size
			}
		}
		if loads != (which == 1) || p.Mem == w {
			t.Errorf("%d: it loads what is another one: %v", which, loads)
		}
	}
}

// P23.2: no other is known.
func TestShowNone(t *testing.T) {
	for _, which := range []int{math.MinInt, -1, 3, 4, 1 << 32, math.MaxInt} {
		p, w, ok := twin.Show(which)
		if ok || w != "" || len(p.Prog) != 0 || p.Mem != "" || p.Cycles != 0 || p.Conf.Width != 0 || len(p.Conf.Lat) != 0 {
			t.Errorf("%d: %+v, %q, %v", which, p, w, ok)
		}
	}
	p, _, _ := twin.Show(0)
	p.Prog[0] = 0
	if q, _, _ := twin.Show(0); q.Prog[0] == 0 {
		t.Error("one who changes the answer changes the next one")
	}
}

// leaky is a program with slow jumps over loads, some of whose addresses were loaded.
func leaky(r *rand.Rand) []uint32 {
	is := []api.Inst{{Op: api.Addi, Rd: 8, Imm: 1}, {Op: api.Lui, Rd: 7, Imm: 1 << 31}, {Op: api.Lbu, Rd: 6, Imm: uint32(r.Intn(64))}}
	reg := func() int { return 1 + r.Intn(6) }
	for range 1 + r.Intn(4) {
		is = append(is, api.Inst{Op: api.Divu, Rd: 9, Rs1: 7, Rs2: 8})
		n := 1 + r.Intn(5)
		is = append(is, api.Inst{Op: []int{api.Bne, api.Bne, api.Beq}[r.Intn(3)], Rs1: 9, Imm: uint32(4 * (1 + r.Intn(n+1)))})
		if r.Intn(3) > 0 {
			n = 2
			is = append(is, api.Inst{Op: api.Lbu, Rd: 5, Imm: uint32(r.Intn(128))}, api.Inst{Op: api.Lbu, Rd: 4, Rs1: 5})
		}
		for range n {
			a, b := reg(), reg()
			is = append(is, []api.Inst{
				{Op: api.Lbu, Rd: a, Imm: uint32(r.Intn(128))}, {Op: api.Lbu, Rd: a, Rs1: b}, {Op: api.Lbu, Rd: a, Rs1: 6}, {Op: api.Lw, Rd: a, Rs1: b},
				{Op: api.Sb, Rs1: a, Rs2: b}, {Op: api.Sb, Rs2: b, Imm: uint32(r.Intn(128))}, {Op: api.Div, Rd: a, Rs1: 7, Rs2: b}, {Op: api.Bltu, Rs1: a, Rs2: b, Imm: 8},
				{Op: api.Add, Rd: a, Rs1: b, Rs2: 6}, {Op: api.Xor, Rd: a, Rs1: b, Rs2: a}, {Op: api.Jalr, Rd: 1, Rs1: b}, {Op: api.Andi, Rd: a, Rs1: b, Imm: 0x7c},
			}[r.Intn(12)])
		}
	}
	return encoded(append(is, api.Inst{Op: api.Ebreak})...)
}

func anyConf(r *rand.Rand) api.Conf {
	c := api.Conf{
		Width: 1 + r.Intn(2), Rob: 4 + r.Intn(5), Queue: 2 + r.Intn(3), Stores: 1 + r.Intn(4), Slots: 2 + r.Intn(5),
		Sets: 1 << r.Intn(3), Ways: 1 + r.Intn(2), Tables: r.Intn(2) == 0,
	}
	for range r.Intn(4) {
		c.Lat = append(c.Lat, 1+r.Intn(8))
	}
	for range r.Intn(2) * 3 {
		c.Tape = append(c.Tape, uint32(4*r.Intn(16)))
	}
	return c
}

// another is a memory that differs: where the run of the first one loads nothing, or in a few bytes.
func another(r *rand.Rand, prog []uint32, m string) string {
	w := []byte(m)
	if r.Intn(3) == 0 {
		for range 1 + r.Intn(3) {
			w[r.Intn(len(w))] = byte(r.Intn(256))
		}
		return string(w)
	}
	for k := range w {
		w[k] = byte(r.Intn(128))
	}
	_, steps := seq.Run(prog, m, 1000)
	for _, s := range steps {
		if s.Size > 0 {
			copy(w[s.Addr:][:s.Size], m[s.Addr:])
		}
	}
	if r.Intn(2) == 0 && len(steps) > 2 && steps[2].Size == 1 {
		w[steps[2].Addr] = byte(r.Intn(128))
	}
	return string(w)
}

// P4, P5, P23.3, P23.4: two runs that agree far enough are not seen apart, where the mode keeps it.
func TestKept(t *testing.T) {
	r := rand.New(rand.NewSource(31))
	apart := map[[2]int]int{}
	count := map[[2]int]int{}
	for range 700 {
		prog, c := leaky(r), anyConf(r)
		m := make([]byte, 128)
		for k := range m {
			m[k] = byte(r.Intn(128))
		}
		w := another(r, prog, string(m))
		n := 20 + r.Intn(140)
		for k, loaded := range []bool{false, true} {
			for mode := range 3 {
				c.Mode = mode
				got := twin.Run(c, prog, string(m), w, n, loaded)
				if !got.Far {
					continue
				}
				count[[2]int{k, mode}]++
				if got.First < 0 {
					continue
				}
				apart[[2]int{k, mode}]++
				if mode == api.MStrict || mode == api.MTaint && loaded {
					t.Fatalf("mode %d, loaded %v: seen apart at %d: %x on %q and %q of %+v", mode, loaded, got.First, prog, m, w, c)
				}
			}
		}
	}
	if apart[[2]int{1, 0}] < 20 || apart[[2]int{0, 1}] < 5 || count[[2]int{1, 1}] < 200 || count[[2]int{0, 2}] < 300 {
		t.Errorf("seen apart %v of %v: too few to tell", apart, count)
	}
}

// P23.3, P23.4: what two contracts tell is what package trace tells.
func TestEvents(t *testing.T) {
	r := rand.New(rand.NewSource(32))
	for range 100 {
		prog, c := leaky(r), anyConf(r)
		m := strings.Repeat("\x01\x22\x43\x64", 32)
		w := another(r, prog, m)
		n := r.Intn(40)
		for _, loaded := range []bool{false, true} {
			far := twin.Far(c, n)
			want := trace.Same(trace.Run(prog, m, far, loaded), trace.Run(prog, w, far, loaded))
			if same, _ := twin.Agree(c, prog, m, w, n, loaded); same != want {
				t.Fatalf("%d, not %d", same, want)
			}
		}
	}
}
