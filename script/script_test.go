package script_test

import (
	"math"
	"math/rand"
	"reflect"
	"regexp"
	"slices"
	"strings"
	"testing"

	"auspex/api"
	"auspex/core"
	"auspex/script"
	"auspex/seq"
	"auspex/twin"
	"auspex/watch"
)

// lines are a plan's fourteen ones.
func lines() []string {
	return []string{
		"mode taint", "width 2", "rob 8", "queue 4", "stores 3", "slots 6", "sets 4", "ways 1", "guess tape", "lat 3 8 1",
		"tape 00000008 fffffffc 0000abcd", "prog 00500093 00100073", "mem 00112233445566778899aabbccddeeff", "cycles 40",
	}
}

func aPlan() api.Plan {
	return api.Plan{
		Conf: api.Conf{Mode: api.MTaint, Width: 2, Rob: 8, Queue: 4, Stores: 3, Slots: 6, Sets: 4, Ways: 1, Lat: []int{3, 8, 1}, Tape: []uint32{8, 0xfffffffc, 0xabcd}},
		Prog: []uint32{0x00500093, 0x00100073}, Mem: "\x00\x11\x22\x33\x44\x55\x66\x77\x88\x99\xaa\xbb\xcc\xdd\xee\xff", Cycles: 40,
	}
}

func text(lines []string) string { return strings.Join(lines, "\n") + "\n" }

// same holds two plans against each other; what is nil is empty.
func same(a, b api.Plan) bool {
	for _, p := range []*api.Plan{&a, &b} {
		p.Conf.Lat, p.Conf.Tape, p.Prog = append([]int(nil), p.Conf.Lat...), append([]uint32(nil), p.Conf.Tape...), append([]uint32(nil), p.Prog...)
	}
	return reflect.DeepEqual(a, b)
}

// P25.1: the text of a plan, and the plan of a text.
func TestPrintAndParse(t *testing.T) {
	s, e := script.Print(aPlan())
	if s != text(lines()) || e != api.OK {
		t.Errorf("Print: %q, %d", s, e)
	}
	p, e, n := script.Parse(text(lines()))
	if !same(p, aPlan()) || e != api.OK || n != 0 {
		t.Errorf("Parse: %+v, %d, %d", p, e, n)
	}
	for name, mode := range map[string]int{"off": 0, "taint": 1, "strict": 2} {
		for guess, tables := range map[string]bool{"tape": false, "tables": true} {
			p := aPlan()
			p.Conf.Mode, p.Conf.Tables, p.Conf.Lat, p.Conf.Tape, p.Prog, p.Cycles = mode, tables, nil, []uint32{}, nil, 0
			want := lines()
			want[0], want[8], want[9], want[10], want[11], want[13] = "mode "+name, "guess "+guess, "lat", "tape", "prog", "cycles 0"
			if s, e := script.Print(p); s != text(want) || e != api.OK {
				t.Errorf("Print: %q, %d", s, e)
			}
			if q, e, n := script.Parse(text(want)); !same(q, p) || e != api.OK || n != 0 {
				t.Errorf("Parse: %+v, %d, %d", q, e, n)
			}
		}
	}
}

// P25.1: Right, and Print and Run of plans that may not be, each for one reason.
func TestRight(t *testing.T) {
	if !script.Right(aPlan()) || script.Right(api.Plan{}) {
		t.Error("Right")
	}
	for name, change := range map[string]func(*api.Plan){
		"mode": func(p *api.Plan) { p.Conf.Mode = 3 }, "width": func(p *api.Plan) { p.Conf.Width = 3 }, "rob": func(p *api.Plan) { p.Conf.Rob = 1 },
		"lat": func(p *api.Plan) { p.Conf.Lat = []int{0} }, "many lat": func(p *api.Plan) { p.Conf.Lat = slices.Repeat([]int{1}, 65) },
		"tape": func(p *api.Plan) { p.Conf.Tape = make([]uint32, 65) }, "prog": func(p *api.Plan) { p.Prog = make([]uint32, 65) },
		"mem": func(p *api.Plan) { p.Mem += "x" }, "no mem": func(p *api.Plan) { p.Mem = "" }, "much mem": func(p *api.Plan) { p.Mem = strings.Repeat("x", 512) },
		"cycles": func(p *api.Plan) { p.Cycles = 601 }, "cycles below 0": func(p *api.Plan) { p.Cycles = -1 }, "no cycles": func(p *api.Plan) { p.Cycles = math.MinInt },
	} {
		p := aPlan()
		change(&p)
		if script.Right(p) {
			t.Errorf("%s: it may not be", name)
		}
		if s, e := script.Print(p); s != "" || e != api.ErrArg {
			t.Errorf("%s: Print %q, %d", name, s, e)
		}
		if c, seen, e := script.Run(p); !reflect.DeepEqual(c, api.Core{}) || len(seen) != 0 || e != api.ErrArg {
			t.Errorf("%s: Run %d", name, e)
		}
	}
	for name, change := range map[string]func(*api.Plan){
		"all of it": func(p *api.Plan) {
			p.Cycles, p.Prog, p.Conf.Tape, p.Conf.Lat, p.Mem = 600, make([]uint32, 64), make([]uint32, 64), slices.Repeat([]int{8}, 64), strings.Repeat("x", 256)
		},
		"no cycles": func(p *api.Plan) { p.Cycles = 0 },
	} {
		p := aPlan()
		change(&p)
		s, e := script.Print(p)
		q, f, n := script.Parse(s)
		if !script.Right(p) || e != api.OK || !same(q, p) || f != api.OK || n != 0 {
			t.Errorf("%s: it may be", name)
		}
	}
}

// P25.1: each line that is not as one may be is told by its number, the first one of several.
func TestBadLines(t *testing.T) {
	many := func(word string, n int) string { return strings.Repeat(" "+word, n) }
	for k, bad := range [][]string{
		{"", "mode", "mode ", "mode on", "mode Off", "mode off ", "mode  off", " mode off", "mode off off", "width 1", "mode 0", "mode off\r", "mode\toff", "modeoff"},
		{"width", "width 0", "width 3", "width 01", "width +1", "width -1", "width 1 1", "width x", "width 1.0", "width 18446744073709551617", "rob 2", "width ", "Width 1", "width 0x1"},
		{"rob 1", "rob 9", "rob 08", "rob", "rob 80", "rob 2 "},
		{"queue 0", "queue 5", "queue", "queue 1 1"},
		{"stores 0", "stores 5", "stores", "store 1"},
		{"slots 1", "slots 7", "slots", "slots 02"},
		{"sets 0", "sets 3", "sets 5", "sets 8", "sets"},
		{"ways 0", "ways 3", "ways"},
		{"guess", "guess table", "guess tables tape", "guess Tape", "guess off", "guess true"},
		{"lat 0", "lat 9", "lat ", "lat 1 ", "lat 1  2", "lat 1 x", "lat 01", "lat -1", "lat" + many("1", 65), "lat 1,2", "lats"},
		{"tape 0", "tape 0000000", "tape 000000000", "tape 0000000G", "tape 0000000A", "tape ", "tape 00000000  00000000", "tape" + many("00000000", 65), "tape 0x000000", "tape 00000000,", "tape +0000000"},
		{"prog 0", "prog 0050009", "prog 0050009g", "prog 0050009F", "prog ", "prog" + many("00000000", 65), "prog 00000000 ", "prog -0000000"},
		{"mem", "mem ", "mem 00", "mem 0", "mem " + strings.Repeat("0", 31), "mem " + strings.Repeat("0", 33), "mem " + strings.Repeat("0", 34), "mem " + strings.Repeat("0", 96), "mem " + strings.Repeat("0", 1024),
			"mem " + strings.Repeat("0", 31) + "A", "mem " + strings.Repeat("g", 32), "mem " + strings.Repeat("0", 32) + " ", "mem " + strings.Repeat("0", 16) + " " + strings.Repeat("0", 16), "mem " + strings.Repeat("0", 31) + "/", "mem " + strings.Repeat(":", 32), "mem " + strings.Repeat("`", 32)},
		{"cycles", "cycles 601", "cycles -1", "cycles 040", "cycles 00", "cycles 1e2", "cycles 1000000000000", "cycles 4294967296", "cycles 18446744073709551616", "cycles 40 0", "cycle 40"},
	} {
		for _, line := range bad {
			l := lines()
			l[k] = line
			if p, e, n := script.Parse(text(l)); !same(p, api.Plan{}) || e != api.ErrLine || n != k+1 {
				t.Errorf("line %d %q: %+v, %d, %d", k+1, line, p, e, n)
			}
			for j := k + 1; j < 14; j++ {
				l[j] = "?"
			}
			if _, e, n := script.Parse(text(l)); e != api.ErrLine || n != k+1 {
				t.Errorf("line %d %q, and others behind it: %d, %d", k+1, line, e, n)
			}
		}
	}
}

// P25.1: lines that are not there or not ended, and what stands behind the last one.
func TestEnds(t *testing.T) {
	l := lines()
	for n := 0; n <= 14; n++ {
		short := strings.Join(l[:n], "\n")
		want := n
		if n == 0 {
			want = 1
		}
		if p, e, k := script.Parse(short); !same(p, api.Plan{}) || e != api.ErrLine || k != want {
			t.Errorf("%d lines, the last one not ended: %d, %d", n, e, k)
		}
		if _, e, k := script.Parse(text(l[:n])); n > 0 && n < 14 && (e != api.ErrLine || k != n+1) {
			t.Errorf("%d lines: %d, %d", n, e, k)
		}
	}
	for _, more := range []string{"\n", " ", "x", "mode off\n", "cycles 40\n", "\x00", text(l)} {
		if p, e, k := script.Parse(text(l) + more); !same(p, api.Plan{}) || e != api.ErrLine || k != 15 {
			t.Errorf("more %q: %d, %d", more, e, k)
		}
	}
	for k := range l {
		swapped := slices.Clone(l)
		j := (k + 1) % 14
		swapped[k], swapped[j] = swapped[j], swapped[k]
		if _, e, n := script.Parse(text(swapped)); e != api.ErrLine || n != min(k, j)+1 {
			t.Errorf("lines %d and %d change places: %d, %d", k+1, j+1, e, n)
		}
	}
}

// forms are what each line may be, told in another way.
func forms() []*regexp.Regexp {
	var out []*regexp.Regexp
	for _, f := range []string{
		"mode (off|taint|strict)", "width [12]", "rob [2-8]", "queue [1-4]", "stores [1-4]", "slots [2-6]", "sets [124]", "ways [12]", "guess (tables|tape)",
		"lat( [1-8]){0,64}", "tape( [0-9a-f]{8}){0,64}", "prog( [0-9a-f]{8}){0,64}",
		"mem ([0-9a-f]{32}|[0-9a-f]{64}|[0-9a-f]{128}|[0-9a-f]{256}|[0-9a-f]{512})", "cycles (0|[1-9][0-9]?|[1-5][0-9][0-9]|600)",
	} {
		out = append(out, regexp.MustCompile(`\A`+f+`\n\z`))
	}
	return out
}

// firstBad is the first line that is not of its form; 15: more; 0: none.
func firstBad(fs []*regexp.Regexp, s string) int {
	l := strings.SplitAfterN(s, "\n", 15)
	for k, f := range fs {
		if k >= len(l) || !f.MatchString(l[k]) {
			return k + 1
		}
	}
	if len(l) > 14 && l[14] != "" {
		return 15
	}
	return 0
}

func anyPlan(r *rand.Rand) api.Plan {
	p := api.Plan{Conf: api.Conf{
		Mode: r.Intn(3), Width: 1 + r.Intn(2), Rob: 2 + r.Intn(7), Queue: 1 + r.Intn(4), Stores: 1 + r.Intn(4), Slots: 2 + r.Intn(5),
		Sets: 1 << r.Intn(3), Ways: 1 + r.Intn(2), Tables: r.Intn(2) == 0,
	}, Cycles: r.Intn(601)}
	for range r.Intn(5) {
		p.Conf.Lat, p.Conf.Tape, p.Prog = append(p.Conf.Lat, 1+r.Intn(8)), append(p.Conf.Tape, r.Uint32()>>uint(r.Intn(32))), append(p.Prog, r.Uint32())
	}
	m := make([]byte, 16<<r.Intn(5))
	for k := range m {
		m[k] = byte(r.Intn(256))
	}
	p.Mem = string(m)
	return p
}

// P25.1, P25.3: texts with a few bytes changed: what is parsed is printed as it was, what is not has its first bad line told.
func TestChangedTexts(t *testing.T) {
	r := rand.New(rand.NewSource(35))
	fs := forms()
	good, bad := 0, map[int]int{}
	for range 4000 {
		p := anyPlan(r)
		s, e := script.Print(p)
		if e != api.OK || !script.Right(p) || firstBad(fs, s) != 0 {
			t.Fatalf("Print of %+v: %q, %d", p, s, e)
		}
		if q, e, n := script.Parse(s); !same(q, p) || e != api.OK || n != 0 {
			t.Fatalf("Parse of %q: %+v, %d, %d", s, q, e, n)
		}
		b := []byte(s)
		for range r.Intn(3) {
			at := r.Intn(len(b))
			switch c := " \n0123456789abcdefgx-"[r.Intn(21)]; r.Intn(3) {
			case 0:
				b[at] = c
			case 1:
				b = slices.Insert(b, at, c)
			case 2:
				b = slices.Delete(b, at, at+1)
			}
		}
		s = string(b)
		q, e, n := script.Parse(s)
		want := firstBad(fs, s)
		if n != want || (e == api.OK) != (want == 0) || e != api.OK && (e != api.ErrLine || !same(q, api.Plan{})) {
			t.Fatalf("Parse of %q: %d, %d, not %d", s, e, n, want)
		}
		if e == api.OK {
			good++
			if again, e := script.Print(q); again != s || e != api.OK {
				t.Fatalf("%q is printed as %q", s, again)
			}
		} else {
			bad[n]++
		}
	}
	if good < 500 || len(bad) < 12 {
		t.Errorf("%d are plans, bad lines %v", good, bad)
	}
}

// P25.2: Run is watch.Run of all of it.
func TestRun(t *testing.T) {
	r := rand.New(rand.NewSource(36))
	for range 40 {
		p := anyPlan(r)
		p.Cycles = r.Intn(80)
		c, seen, e := script.Run(p)
		d, want := watch.Run(p.Conf, p.Prog, p.Mem, p.Cycles)
		if e != api.OK || !reflect.DeepEqual(c, d) || len(seen) != p.Cycles || watch.First(seen, want) != -1 {
			t.Fatalf("Run of %+v: %d", p, e)
		}
	}
	p := aPlan()
	p.Cycles = 600
	if c, seen, e := script.Run(p); e != api.OK || c.Cycle != 600 || len(seen) != 600 || !core.Idle(c) {
		t.Errorf("600 cycles: %d", e)
	}
}

// play runs a text of the example's lines in which some are others.
func play(t *testing.T, change map[int]string) (api.Core, []api.Seen) {
	t.Helper()
	l := lines()
	l[12], l[13] = "mem "+strings.Repeat("11", 16), "cycles 600"
	for k, line := range change {
		l[k-1] = line
	}
	p, e, n := script.Parse(text(l))
	if e != api.OK {
		t.Fatalf("line %d: %q", n, l)
	}
	c, seen, e := script.Run(p)
	if e != api.OK {
		t.Fatal(e)
	}
	return c, seen
}

// The ten examples of the whole.
func TestTenExamples(t *testing.T) {
	for _, mode := range []string{"mode off", "mode taint", "mode strict"} {
		for k, x := range []struct {
			prog string
			halt int
			last api.Step
			mem  string
		}{
			{"prog 00500093 00100073", api.HBreak, api.Step{PC: 4, Next: 4, Halt: api.HBreak}, ""},
			{"prog", api.HFetch, api.Step{Halt: api.HFetch}, ""},
			{"prog 00000000", api.HWord, api.Step{Halt: api.HWord}, ""},
			{"prog 00000073", api.HCall, api.Step{Halt: api.HCall}, ""},
			{"prog 01002083", api.HLoad, api.Step{Addr: 16, Halt: api.HLoad}, ""},
			{"prog 00202023 00100073", api.HBreak, api.Step{PC: 4, Next: 4, Halt: api.HBreak}, "\x00\x00\x00\x00"},
			{"prog 0000006f", 0, api.Step{}, ""},
			{"prog 00200067", api.HJump, api.Step{Halt: api.HJump}, ""},
		} {
			c, _ := play(t, map[int]string{1: mode, 12: x.prog})
			n := len(c.Retired)
			if c.Halt != x.halt || n == 0 || c.Retired[n-1] != x.last || c.Mem != x.mem+strings.Repeat("\x11", 16-len(x.mem)) {
				t.Errorf("example %d, %s: %+v", k+1, mode, c)
			}
			if k == 0 && (c.Regs[1] != 5 || n != 2) {
				t.Errorf("example 1, %s: %+v", mode, c)
			}
		}
	}
	for _, x := range []struct {
		which, mode int
		apart       bool
	}{{0, api.MOff, true}, {0, api.MStrict, false}, {1, api.MTaint, true}, {1, api.MStrict, false}} {
		p, w, _ := twin.Show(x.which)
		p.Conf.Mode = x.mode
		_, a, e := script.Run(p)
		p.Mem = w
		_, b, f := script.Run(p)
		if e != api.OK || f != api.OK || (watch.First(a, b) != -1) != x.apart {
			t.Errorf("known program %d, mode %d: %d, %d, %d", x.which, x.mode, e, f, watch.First(a, b))
		}
	}
}

// The known programs' plans may be.
func TestShown(t *testing.T) {
	for which := range 3 {
		p, w, _ := twin.Show(which)
		if !script.Right(p) {
			t.Errorf("%d may not be", which)
		}
		if p.Mem = w; !script.Right(p) {
			t.Errorf("%d may not be with the other memory", which)
		}
	}
}

// P25.4: what retired are the first steps of the program, at most Width a cycle, and what is seen hangs on the text alone.
func TestWhole(t *testing.T) {
	r := rand.New(rand.NewSource(37))
	for range 60 {
		p := anyPlan(r)
		p.Prog = []uint32{0x00500093, 0xfff08093, 0x00102023, 0x00002103, 0x0220c1b3, 0xfe0098e3, 0x00100073}
		if r.Intn(2) == 0 {
			p.Prog[r.Intn(7)] = r.Uint32()
		}
		p.Cycles = 100 + r.Intn(200)
		s, _ := script.Print(p)
		q, _, _ := script.Parse(s)
		c, seen, _ := script.Run(p)
		d, again, _ := script.Run(q)
		_, steps := seq.Run(p.Prog, p.Mem, len(c.Retired))
		if !slices.Equal(c.Retired, steps) || !slices.Equal(c.Retired, d.Retired) || watch.First(seen, again) != -1 {
			t.Fatalf("%q: %+v", s, c.Retired)
		}
		for _, x := range seen {
			if len(x.PCs) > p.Conf.Width {
				t.Fatalf("%d retired in a cycle", len(x.PCs))
			}
		}
	}
}
