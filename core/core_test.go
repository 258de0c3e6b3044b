package core_test

import (
	"math"
	"slices"
	"strings"
	"testing"

	"auspex/api"
	"auspex/core"
	"auspex/guess"
)

func data(b byte) string { return strings.Repeat(string([]byte{b}), 16) }

// memory has 128 bytes: 16 of `a`, 16 of `b`, and so on.
func memory() string {
	m := ""
	for k := range 8 {
		m += data(byte('a' + k))
	}
	return m
}

func shape() api.Conf {
	return api.Conf{Width: 2, Rob: 8, Queue: 4, Stores: 2, Slots: 3, Sets: 1, Ways: 2, Lat: []int{3, 5, 7}}
}

// still is a core that fetches nothing, with these entries, numbered from 1 on.
func still(c api.Conf, rob ...api.Entry) api.Core {
	x := core.New(c, nil, memory())
	x.Stop = true
	for k := range rob {
		rob[k].No = k + 1
	}
	x.Rob = rob
	x.Next = 20
	return x
}

var (
	slow = api.Entry{PC: 100, Inst: api.Inst{Op: api.Div, Rd: 9}, Is: api.EGoes, Left: 30, Took: 30}
	turn = api.Entry{PC: 100, Inst: api.Inst{Op: api.Beq, Imm: 8}, Is: api.EGoes, Left: 30}
)

func load(rd, rs1 int, imm uint32) api.Entry {
	return api.Entry{Inst: api.Inst{Op: api.Lw, Rd: rd, Rs1: rs1, Imm: imm}}
}

func store(rs1, rs2 int, imm uint32) api.Entry {
	return api.Entry{Inst: api.Inst{Op: api.Sw, Rs1: rs1, Rs2: rs2, Imm: imm}}
}

func add(rd, a, b int) api.Entry {
	return api.Entry{Inst: api.Inst{Op: api.Add, Rd: rd, Rs1: a, Rs2: b}}
}

// at is an entry whose address is known.
func at(e api.Entry, addr uint32) api.Entry {
	e.Addr, e.Known = addr, true
	return e
}

func is(e api.Entry, state int) api.Entry {
	e.Is = state
	return e
}

func step(t *testing.T, c api.Core) api.Core {
	t.Helper()
	if !core.Right(c) {
		t.Fatalf("a core of a test that may not be: %+v", c)
	}
	return core.Step(c)
}

// P21.1: New.
func TestNew(t *testing.T) {
	long := make([]uint32, 70)
	for k := range long {
		long[k] = uint32(k)
	}
	for _, n := range []int{0, 1, 63, 64, 65, 70} {
		got := core.New(api.Conf{Sets: 3, Ways: 5, Lat: []int{99}}, long[:n], "abc")
		want := api.Core{
			Conf: api.Conf{Width: 1, Rob: 2, Queue: 1, Stores: 1, Slots: 2, Sets: 2, Ways: 2, Lat: []int{8}},
			Prog: long[:min(n, 64)], Mem: "abc" + strings.Repeat("\x00", 13), Next: 1, Guess: guess.New(),
			Data: api.Cache{Ways: 2, Sets: make([][]api.Way, 2)}, Words: api.Cache{Ways: 2, Sets: make([][]api.Way, 2)},
		}
		if !same(got, want) || !core.Right(got) {
			t.Errorf("New of %d words: %+v", n, got)
		}
	}
	if got := core.New(shape(), nil, strings.Repeat("x", 300)); len(got.Mem) != 256 || !core.Right(got) {
		t.Errorf("New of much memory: %d", len(got.Mem))
	}
}

// P21.1: Right, each reason by itself; of a core that may not be Step is itself.
func TestRight(t *testing.T) {
	for name, change := range map[string]func(*api.Core){
		"shape":             func(c *api.Core) { c.Conf.Slots = 1 },
		"latency":           func(c *api.Core) { c.Conf.Lat = []int{9} },
		"program":           func(c *api.Core) { c.Prog = make([]uint32, 65) },
		"memory of 17":      func(c *api.Core) { c.Mem += "x" },
		"no memory":         func(c *api.Core) { c.Mem = "" },
		"memory of 512":     func(c *api.Core) { c.Mem = strings.Repeat("x", 512) },
		"entries":           func(c *api.Core) { c.Rob = []api.Entry{{No: 2, Inst: slow.Inst}, {No: 1, Inst: slow.Inst}} },
		"an entry":          func(c *api.Core) { c.Rob = []api.Entry{{No: 2, Inst: slow.Inst, Is: api.EGoes}} },
		"more than Rob":     func(c *api.Core) { c.Conf.Rob = 2; c.Rob = still(shape(), slow, slow, slow).Rob; c.Next = 20 },
		"Next the last":     func(c *api.Core) { c.Rob = still(shape(), slow, slow).Rob; c.Next = 2 },
		"Next below":        func(c *api.Core) { c.Rob = still(shape(), slow, slow).Rob; c.Next = -5 },
		"data":              func(c *api.Core) { c.Data.Sets = [][]api.Way{{{Line: 8}}} },
		"data's sets":       func(c *api.Core) { c.Data.Sets = make([][]api.Way, 2) },
		"data's ways":       func(c *api.Core) { c.Data.Ways = 1 },
		"words":             func(c *api.Core) { c.Words.Sets = [][]api.Way{{{Line: 16}, {Line: 16}}} },
		"words' sets":       func(c *api.Core) { c.Words.Sets = make([][]api.Way, 4) },
		"words' ways":       func(c *api.Core) { c.Words.Ways = 1 },
		"history":           func(c *api.Core) { c.Guess.History = 8 },
		"slots":             func(c *api.Core) { c.Guess.Slots = nil },
		"fetched":           func(c *api.Core) { c.Fetched = make([]api.Fetched, 5) },
		"stores":            func(c *api.Core) { c.Stores = slices.Repeat([]api.Put{{Addr: 4, Data: "abcd"}}, 3) },
		"a store's bytes":   func(c *api.Core) { c.Stores = []api.Put{{Addr: 4, Data: "abc"}} },
		"an empty store":    func(c *api.Core) { c.Stores = []api.Put{{Addr: 4}} },
		"a store's address": func(c *api.Core) { c.Stores = []api.Put{{Addr: 4, Data: "ab"}, {Addr: 2, Data: "abcd"}} },
		"a store beyond":    func(c *api.Core) { c.Stores = []api.Put{{Addr: 128, Data: "a"}} },
	} {
		c := core.New(shape(), nil, memory())
		c.Bus = []api.Request{{Kind: api.RWord, Left: 1}}
		if !core.Right(c) {
			t.Fatal("New may be")
		}
		change(&c)
		if core.Right(c) {
			t.Errorf("%s: it may not be", name)
		}
		if got := core.Step(c); !same(got, c) {
			t.Errorf("%s: Step of it", name)
		}
	}
	if core.Right(api.Core{}) || !same(core.Step(api.Core{}), api.Core{}) {
		t.Error("zero")
	}
	c := still(shape(), slow, slow)
	c.Next, c.Fetched = 3, make([]api.Fetched, 4)
	c.Stores = []api.Put{{Addr: 127, Data: "x"}, {Addr: 124, Data: "abcd"}}
	c.Bus = []api.Request{{Kind: 99, Line: 7, Left: -1, Data: "odd"}}
	c.Asked, c.Guessed, c.Cycle = math.MinInt, math.MinInt, math.MaxInt
	if !core.Right(c) {
		t.Error("it may be")
	}
	if got := core.Step(c); got.Cycle != math.MinInt {
		t.Errorf("cycle %d", got.Cycle)
	}
}

// withRoom is a list with room behind it, filled with one that no test asks for.
func withRoom[T any](l []T, odd T) []T {
	out := append(slices.Clone(l), odd, odd, odd)
	return out[:len(l)]
}

// R4: Step writes neither into the lists that it is handed nor behind them.
func TestStepKeeps(t *testing.T) {
	c := still(shape(), done(add(1, 0, 0), 5), done(at(store(0, 0, 0), 8), 7), add(2, 0, 0), add(3, 0, 0))
	c.Prog = []uint32{0x00500093, 0x00500093, 0x00500093, 0x00500093}
	c.Stop, c.Fetch = false, 8
	c.Words.Sets[0] = []api.Way{{Line: 0}}
	c.Rob = withRoom(c.Rob, api.Entry{No: 99})
	c.Fetched = withRoom([]api.Fetched{{PC: 0, Guess: 4}}, api.Fetched{PC: 99})
	c.Stores = withRoom([]api.Put{{Addr: 4, Data: "abcd"}}, api.Put{Addr: 99})
	c.Retired = withRoom([]api.Step{{PC: 96}}, api.Step{PC: 99})
	c.Bus = withRoom([]api.Request{{Kind: api.RWrite, Line: 16, Left: 5}}, api.Request{Kind: 99})
	rob, fetched, stores, retired, bus := slices.Clone(c.Rob), slices.Clone(c.Fetched), slices.Clone(c.Stores), slices.Clone(c.Retired), slices.Clone(c.Bus)
	got := step(t, c)
	if len(got.Retired) != 3 || len(got.Stores) != 2 || len(got.Bus) != 2 || len(got.Fetched) != 2 || len(got.Rob) != 3 {
		t.Fatalf("it does not do what the test asks for: %+v", got)
	}
	if !slices.Equal(c.Rob, rob) || !slices.Equal(c.Fetched, fetched) || !slices.Equal(c.Stores, stores) || !slices.Equal(c.Retired, retired) || !slices.Equal(c.Bus, bus) {
		t.Error("a list is written into")
	}
	if c.Rob[:5][4].No != 99 || c.Fetched[:2][1].PC != 99 || c.Stores[:2][1].Addr != 99 || c.Retired[:2][1].PC != 99 || c.Bus[:2][1].Kind != 99 {
		t.Error("a list is written behind")
	}
}

// P21.2, 1: a load's line comes for all that wait for it, and for no others.
func TestBusLoad(t *testing.T) {
	wait := func(addr uint32) api.Entry { return is(at(load(1, 0, 0), addr), api.EBus) }
	c := still(shape(), slow, wait(20), wait(28), wait(32), at(load(2, 0, 0), 24))
	c.Bus = []api.Request{{Kind: api.RLoad, Line: 16, Left: 1}, {Kind: api.RLoad, Line: 32, Left: 2}}
	c.Stores = []api.Put{{Addr: 20, Data: "WXYZ"}}
	got := step(t, c)
	for k, want := range []struct {
		is, filled int
		value      uint32
	}{{api.EGoes, 0, 0}, {api.EDone, 1, 0x5a595857}, {api.EDone, 1, 0x62626262}, {api.EBus, 0, 0}} {
		if e := got.Rob[k]; e.Is != want.is || e.Filled != (want.filled == 1) || e.Value != want.value {
			t.Errorf("entry %d: %+v", k, e)
		}
	}
	if e := got.Rob[4]; e.Filled || e.Is != api.EGoes || e.Value != 0x62626262 {
		t.Errorf("a load beside them takes what came for others: %+v", e)
	}
	c.Bus[0].Line = 20
	if got := step(t, c); got.Rob[1].Is != api.EBus || got.Rob[1].Filled {
		t.Errorf("another line, as it stands: %+v", got.Rob[1])
	}
	c.Bus[0] = api.Request{Kind: api.RLoad, Line: 16, Left: 2}
	if got := step(t, c); got.Rob[1].Is != api.EBus || got.Bus[0].Left != 1 {
		t.Errorf("not done yet: %+v", got.Rob[1])
	}
	c = still(shape(), slow, wait(130))
	c.Bus = []api.Request{{Kind: api.RLoad, Line: 128, Left: 1}}
	if got := step(t, c); !got.Rob[1].Filled || got.Rob[1].Value != 0 || got.Rob[1].Is != api.EDone {
		t.Errorf("an address that may not be: %+v", got.Rob[1])
	}
}

// P21.2, 1: the other requests that are done, also behind a halt.
func TestBusOthers(t *testing.T) {
	for _, halt := range []int{0, api.HBreak} {
		one := func(q api.Request) api.Core {
			c := still(shape())
			c.Halt = halt
			q.Left = 1
			c.Bus = []api.Request{q}
			c.Data.Sets[0] = []api.Way{{Line: 0, Data: data('A')}, {Line: 64, Dirty: halt == 0, Data: data('Z')}}
			c.Words.Sets[0] = []api.Way{{Line: 0}, {Line: 64}}
			c.Asked = 4
			return step(t, c)
		}
		got := one(api.Request{Kind: api.RWord, Line: 37, Data: data('w')})
		if !slices.Equal(got.Words.Sets[0], []api.Way{{Line: 32}, {Line: 0}}) || len(got.Bus) != 0 || got.Data.Sets[0][0].Line != 0 {
			t.Errorf("a word's line: %+v", got)
		}
		got = one(api.Request{Kind: api.RDrain, Line: 32})
		if !slices.Equal(got.Data.Sets[0], []api.Way{{Line: 32, Data: data('c')}, {Line: 0, Data: data('A')}}) {
			t.Errorf("a drain's line: %+v", got.Data)
		}
		if halt == 0 && (!slices.Equal(got.Bus, []api.Request{{Kind: api.RWrite, Line: 64, Left: 5, Data: data('Z')}}) || got.Asked != 5) {
			t.Errorf("what goes: %+v, %d", got.Bus, got.Asked)
		}
		if halt != 0 && (len(got.Bus) != 0 || got.Asked != 4) {
			t.Errorf("a clean one goes: %+v, %d", got.Bus, got.Asked)
		}
		got = one(api.Request{Kind: api.RWrite, Line: 14, Data: "####"})
		if got.Mem != memory()[:14]+"####"+memory()[18:] || got.Asked != 4 {
			t.Errorf("a write: %q", got.Mem)
		}
		for _, kind := range []int{0, 5, -1, 99} {
			got = one(api.Request{Kind: kind, Line: 32, Data: data('#')})
			if got.Mem != memory() || got.Data.Sets[0][0].Line != 0 || got.Words.Sets[0][0].Line != 0 || len(got.Bus) != 0 {
				t.Errorf("kind %d: %+v", kind, got)
			}
		}
	}
}

// P21.2, 2: entries go on, stores end whose Rs2 is there.
func TestWork(t *testing.T) {
	made := is(add(3, 0, 0), api.EGoes)
	made.Left, made.Value = 1, 77
	later := is(add(4, 0, 0), api.EGoes)
	later.Left = 2
	c := still(shape(), slow, made, later, at(store(0, 3, 8), 8), at(store(0, 4, 12), 12), store(0, 3, 16))
	got := step(t, c)
	if e := got.Rob[0]; e.Left != 29 || e.Is != api.EGoes {
		t.Errorf("the slow one: %+v", e)
	}
	if got.Rob[1].Is != api.EDone || got.Rob[2].Is != api.EGoes || got.Rob[2].Left != 1 {
		t.Errorf("the others: %+v", got.Rob)
	}
	if e := got.Rob[3]; e.Is != api.EDone || e.Value != 77 {
		t.Errorf("a store whose value came in this cycle: %+v", e)
	}
	if got.Rob[4].Is != api.EWait {
		t.Errorf("a store whose value did not: %+v", got.Rob[4])
	}
	if e := got.Rob[5]; e.Is != api.EWait || !e.Known {
		t.Errorf("a store whose address was not known: %+v", e)
	}
}

// P21.2, 2: the first wrong guess cuts what is behind it.
func TestWrongGuess(t *testing.T) {
	wrong := api.Entry{PC: 8, Inst: api.Inst{Op: api.Beq, Imm: 8}, Is: api.EGoes, Left: 1, Next: 200, Guess: 12}
	second := wrong
	second.Next = 44
	c := still(shape(), slow, wrong, second, add(1, 0, 0))
	c.Fetched = []api.Fetched{{PC: 12, Guess: 16}}
	got := step(t, c)
	if len(got.Rob) != 2 || got.Rob[1].Guess != 200 || !got.Rob[1].Known {
		t.Errorf("entries: %+v", got.Rob)
	}
	// In the same cycle it goes on at Next, where there is no word.
	if !slices.Equal(got.Fetched, []api.Fetched{{PC: 200, Guess: 204}}) || !got.Stop || got.Fetch != 200 {
		t.Errorf("fetched: %+v, %v, %d", got.Fetched, got.Stop, got.Fetch)
	}
	wrong.Guess = 200
	second.Guess = 44
	c = still(shape(), slow, wrong, second, add(1, 0, 0))
	c.Fetched = []api.Fetched{{PC: 12, Guess: 16}}
	if got := step(t, c); len(got.Rob) != 5 || got.Rob[4].PC != 12 || !got.Stop || len(got.Fetched) != 0 {
		t.Errorf("none is wrong: %+v", got.Rob)
	}
}

func done(e api.Entry, value uint32) api.Entry {
	e.Is, e.Value = api.EDone, value
	return e
}

// P21.2, 3: at most Width retire, as long as the first one is done.
func TestRetireWidth(t *testing.T) {
	rob := []api.Entry{done(add(1, 0, 0), 11), done(add(2, 0, 0), 22), done(add(3, 0, 0), 33), add(4, 0, 0)}
	for width := 1; width <= 2; width++ {
		s := shape()
		s.Width = width
		got := step(t, still(s, slices.Clone(rob)...))
		want := []api.Step{{Next: 4, Rd: 1, Value: 11}, {Next: 4, Rd: 2, Value: 22}}[:width]
		if !slices.Equal(got.Retired, want) || len(got.Rob) != 4-width || got.Regs[1] != 11 || got.Regs[2] != uint32(22*(width-1)) || got.Regs[3] != 0 {
			t.Errorf("width %d: %+v, %v", width, got.Retired, got.Regs)
		}
	}
	got := step(t, still(shape(), done(add(1, 0, 0), 11), turn, done(add(2, 0, 0), 22)))
	if len(got.Retired) != 1 || len(got.Rob) != 2 {
		t.Errorf("one that is not done: %+v", got.Retired)
	}
}

// P21.2, 3: a halt ends it; nothing else is done of the entry.
func TestRetireHalt(t *testing.T) {
	fails := is(at(store(0, 0, 0), 130), api.EDone)
	fails.Halt, fails.PC, fails.Known = api.HStore, 8, false
	c := still(shape(), fails, done(add(2, 0, 0), 22))
	c.Stop = false
	c.Fetched = []api.Fetched{{PC: 12, Guess: 16}}
	c.Stores = []api.Put{{Addr: 4, Data: "abcd"}, {Addr: 8, Data: "efgh"}}
	got := step(t, c)
	if !slices.Equal(got.Retired, []api.Step{{PC: 8, Next: 8, Addr: 130, Halt: api.HStore}}) || got.Halt != api.HStore {
		t.Errorf("a store that fails where there is no room: %+v", got.Retired)
	}
	if len(got.Rob) != 0 || len(got.Fetched) != 0 || !got.Stop || got.Regs[2] != 0 || len(got.Stores) != 2 || got.Next != 20 {
		t.Errorf("all is empty: %+v", got)
	}
	bad := is(at(load(1, 0, 0), 40), api.EDone)
	bad.Halt = api.HLoad
	got = step(t, still(shape(), bad))
	if len(got.Data.Sets[0]) != 0 || got.Halt != api.HLoad || got.Retired[0].Addr != 40 {
		t.Errorf("no line is brought: %+v", got)
	}
	nowhere := is(turn, api.EDone)
	nowhere.Left, nowhere.Halt, nowhere.Next = 0, api.HJump, 104
	got = step(t, still(shape(), nowhere))
	if !same(api.Core{Guess: got.Guess}, api.Core{Guess: guess.New()}) || got.Halt != api.HJump {
		t.Errorf("nothing is learnt: %+v", got.Guess)
	}
	got = step(t, still(shape(), done(add(1, 0, 0), 11), nowhere))
	if len(got.Retired) != 2 || got.Halt != api.HJump || got.Regs[1] != 11 {
		t.Errorf("behind one that is done: %+v", got)
	}
}

// P21.2, 3: a store retires if there is room for its bytes as they stand ahead of this cycle's draining.
func TestRetireStore(t *testing.T) {
	put := api.Put{Addr: 4, Data: "abcd"}
	for n := 0; n <= 2; n++ {
		c := still(shape(), done(at(store(0, 0, 0), 8), 0x44434241), done(at(store(0, 0, 0), 12), 5))
		c.Stores = slices.Repeat([]api.Put{put}, n)
		c.Data.Sets[0] = []api.Way{{Line: 64, Data: data('z')}}
		got := step(t, c)
		want := append(slices.Repeat([]api.Put{put}, n), api.Put{Addr: 8, Data: "ABCD"}, api.Put{Addr: 12, Data: "\x05\x00\x00\x00"})[:2]
		if !slices.Equal(got.Stores, want) || len(got.Retired) != 2-n || len(got.Rob) != n {
			t.Errorf("with %d stores: %+v, %+v", n, got.Stores, got.Retired)
		}
	}
	c := still(shape(), done(at(store(0, 0, 0), 8), 0x44434241))
	c.Stores = []api.Put{put, put}
	c.Data.Sets[0] = []api.Way{{Line: 0, Data: data('z')}}
	if got := step(t, c); len(got.Retired) != 0 || len(got.Stores) != 1 {
		t.Errorf("one is drained later in the cycle: %+v", got)
	}
}

// P21.2, 3: a load's line is brought, and what goes is asked to be written.
func TestRetireLoad(t *testing.T) {
	c := still(shape(), done(at(load(5, 0, 0), 36), 99), slow)
	c.Data.Sets[0] = []api.Way{{Line: 0, Data: data('A')}, {Line: 16, Dirty: true, Data: data('B')}}
	c.Asked = 2
	got := step(t, c)
	if !slices.Equal(got.Data.Sets[0], []api.Way{{Line: 32, Data: data('c')}, {Line: 0, Data: data('A')}}) || got.Regs[5] != 99 {
		t.Errorf("data: %+v", got.Data)
	}
	if !slices.Equal(got.Bus, []api.Request{{Kind: api.RWrite, Line: 16, Left: 7, Data: data('B')}}) || got.Asked != 3 {
		t.Errorf("bus: %+v, %d", got.Bus, got.Asked)
	}
	c = still(shape(), done(at(load(5, 0, 0), 20), 99), slow)
	c.Data.Sets[0] = []api.Way{{Line: 0, Data: data('A')}, {Line: 16, Dirty: true, Data: data('B')}}
	if got = step(t, c); got.Data.Sets[0][0].Line != 16 || len(got.Bus) != 0 || got.Asked != 0 {
		t.Errorf("it stands there: %+v", got.Data)
	}
}

// P21.2, 3: what guesses learns of each jump that retires.
func TestRetireJump(t *testing.T) {
	jump := api.Entry{PC: 8, Inst: api.Inst{Op: api.Jal, Rd: 1, Imm: 32}, Is: api.EDone, Value: 12, Next: 40, Guess: 40, Known: true}
	got := step(t, still(shape(), jump, done(add(2, 0, 0), 1)))
	if got.Guess.Slots[2] != (api.Slot{PC: 8, Next: 40}) || got.Guess.History != 1 || !slices.Equal(got.Guess.Returns, []uint32{12}) || got.Regs[1] != 12 {
		t.Errorf("%+v", got.Guess)
	}
	if !slices.Equal(got.Retired[:1], []api.Step{{PC: 8, Next: 40, Rd: 1, Value: 12}}) {
		t.Errorf("%+v", got.Retired)
	}
}

// P21.2, 4: who starts: both values, the mode, the units.
func TestStart(t *testing.T) {
	fed := add(6, 7, 8)
	for _, x := range []struct {
		name  string
		mode  int
		width int
		rob   []api.Entry
		want  []int // states, from the first entry on
	}{
		{"values there", 0, 2, []api.Entry{slow, fed}, []int{1, 1}},
		{"the first value not there", 0, 2, []api.Entry{slow, add(6, 9, 8)}, []int{1, 0}},
		{"the second value not there", 0, 2, []api.Entry{slow, add(6, 8, 9)}, []int{1, 0}},
		{"as many as the width", 0, 1, []api.Entry{slow, fed, fed}, []int{1, 1, 0}},
		{"in order", 0, 2, []api.Entry{slow, add(6, 9, 8), fed, fed, fed}, []int{1, 0, 1, 1, 0}},
		{"a division is on its way", 0, 2, []api.Entry{slow, {Inst: api.Inst{Op: api.Remu, Rd: 2}}, fed}, []int{1, 0, 1}},
		{"no division is", 0, 2, []api.Entry{turn, {Inst: api.Inst{Op: api.Remu, Rd: 2}}, fed}, []int{1, 1, 1}},
		{"a division in the open mode", 0, 2, []api.Entry{turn, {Inst: api.Inst{Op: api.Div, Rd: 2}}}, []int{1, 1}},
		{"a division in the middle mode", 1, 2, []api.Entry{turn, {Inst: api.Inst{Op: api.Div, Rd: 2}}}, []int{1, 1}},
		{"a division in the strict mode", 2, 2, []api.Entry{turn, {Inst: api.Inst{Op: api.Div, Rd: 2}}}, []int{1, 0}},
		{"arithmetic in the strict mode", 2, 2, []api.Entry{turn, fed}, []int{1, 1}},
		{"of what hangs on a load", 1, 2, []api.Entry{turn, done(at(load(1, 0, 0), 0), 5), {Inst: api.Inst{Op: api.Div, Rd: 2, Rs1: 1}}}, []int{1, 3, 0}},
		{"of what hangs on it, in the open mode", 0, 2, []api.Entry{turn, done(at(load(1, 0, 0), 0), 5), {Inst: api.Inst{Op: api.Div, Rd: 2, Rs1: 1}}}, []int{1, 3, 1}},
	} {
		s := shape()
		s.Mode, s.Width = x.mode, x.width
		got := step(t, still(s, x.rob...))
		var states []int
		for _, e := range got.Rob {
			states = append(states, e.Is)
		}
		if !slices.Equal(states, x.want) {
			t.Errorf("%s: %v, not %v", x.name, states, x.want)
		}
	}
	c := still(shape(), slow, done(add(7, 0, 0), 40), fed)
	c.Regs[8] = 2
	if got := step(t, c); got.Rob[2].Value != 42 || got.Rob[2].Left != 1 {
		t.Errorf("its two values: %+v", got.Rob[2])
	}
}

// P21.2, 4: addresses of stores and loads; who may, asked ahead of the first start of the cycle.
func TestStartAddresses(t *testing.T) {
	s := shape()
	c := still(s, slow, store(7, 9, 4))
	c.Regs[7] = 20
	if e := step(t, c).Rob[1]; !e.Known || e.Addr != 24 || e.Is != api.EWait {
		t.Errorf("a store without its value: %+v", e)
	}
	if e := step(t, still(s, slow, store(9, 7, 4))).Rob[1]; e.Known {
		t.Errorf("a store without its address: %+v", e)
	}
	if e := step(t, still(s, slow, store(0, 7, 128))).Rob[1]; e.Known || e.Is != api.EDone || e.Halt != api.HStore {
		t.Errorf("a store beyond: %+v", e)
	}
	if e := step(t, still(s, slow, load(1, 0, 126))).Rob[1]; e.Known || e.Is != api.EDone || e.Halt != api.HLoad {
		t.Errorf("a load beyond: %+v", e)
	}
	if e := step(t, still(s, slow, load(1, 9, 0))).Rob[1]; e.Known {
		t.Errorf("a load without its address: %+v", e)
	}
	lone := load(1, 0, 8)
	lone.Inst.Rs2 = 0
	if e := step(t, still(s, slow, lone)).Rob[1]; !e.Known || e.Is != api.EBus {
		t.Errorf("a load: %+v", e)
	}
	s.Mode = api.MStrict
	got := step(t, still(s, slow, store(0, 0, 4), add(3, 0, 0), load(1, 0, 8)))
	if !got.Rob[1].Known || got.Rob[3].Known {
		t.Errorf("the strict mode asks ahead of the first start: %+v", got.Rob)
	}
	got = step(t, still(s, turn, load(1, 0, 8)))
	if got.Rob[1].Known {
		t.Errorf("a load behind a jump in the strict mode: %+v", got.Rob[1])
	}
	got = step(t, still(s, turn, at(load(1, 0, 8), 8)))
	if got.Rob[1].Is != api.EBus {
		t.Errorf("one that is known need not be let: %+v", got.Rob[1])
	}
	got = step(t, still(s, turn, store(0, 0, 8)))
	if got.Rob[1].Known {
		t.Errorf("a store behind a jump in the strict mode: %+v", got.Rob[1])
	}
}

// P21.2, 4: what a load does whose address is known.
func TestLoads(t *testing.T) {
	there := func(c *api.Core) { c.Data.Sets[0] = []api.Way{{Line: 16, Data: data('B')}} }
	filled := at(load(2, 0, 16), 28)
	filled.Filled, filled.Is = true, api.EDone
	for _, x := range []struct {
		name   string
		rob    []api.Entry
		change func(*api.Core)
		is     int
		value  uint32
		asked  int
	}{
		{"asks", nil, nil, api.EBus, 0, 1},
		{"from the data", nil, there, api.EGoes, 0x42424242, 0},
		{"from what came for another one", []api.Entry{filled}, nil, api.EGoes, 0x62626262, 0},
		{"not from what came for another line", []api.Entry{at(filled, 44)}, nil, api.EBus, 0, 1},
		{"from memory with all on its way", nil, func(c *api.Core) {
			there(c)
			c.Stores = []api.Put{{Addr: 24, Data: "S"}, {Addr: 16, Data: "TTTT"}}
		}, api.EGoes, 0x54545454, 0},
		{"from a retired store", nil, func(c *api.Core) { c.Stores = []api.Put{{Addr: 16, Data: "TUVW"}} }, api.EGoes, 0x57565554, 0},
		{"from a store ahead", []api.Entry{is(at(store(0, 0, 16), 16), api.EWait)}, nil, api.EGoes, 0, 0},
		{"waits for a store ahead", []api.Entry{slow, store(9, 0, 16)}, there, api.EWait, 0, 0},
		{"waits for its value", []api.Entry{slow, at(store(0, 9, 16), 16)}, there, api.EWait, 0, 0},
		{"joins a request", nil, func(c *api.Core) { c.Bus = []api.Request{{Kind: api.RLoad, Line: 16, Left: 9}} }, api.EBus, 0, 0},
		{"joins no request for words", nil, func(c *api.Core) { c.Bus = []api.Request{{Kind: api.RWord, Line: 16, Left: 4}} }, api.EBus, 0, 1},
		{"waits for a drain of its line", nil, func(c *api.Core) { c.Bus = []api.Request{{Kind: api.RDrain, Line: 16, Left: 4}} }, api.EWait, 0, 0},
		{"not for one of another line", nil, func(c *api.Core) { c.Bus = []api.Request{{Kind: api.RDrain, Line: 32, Left: 4}} }, api.EBus, 0, 1},
		{"without room", nil, func(c *api.Core) {
			c.Bus = []api.Request{{Kind: api.RWord, Line: 32, Left: 4}, {Kind: api.RLoad, Line: 48, Left: 4}}
		}, api.EWait, 0, 0},
		{"writes need no room", nil, func(c *api.Core) {
			c.Bus = []api.Request{{Kind: api.RWrite, Line: 32, Left: 4}, {Kind: api.RLoad, Line: 48, Left: 4}}
		}, api.EBus, 0, 1},
	} {
		rob := append([]api.Entry{turn}, x.rob...)
		c := still(shape(), append(rob, load(1, 0, 16))...)
		c.Stop = true
		if x.change != nil {
			x.change(&c)
		}
		was := len(c.Bus)
		got := step(t, c)
		e := got.Rob[len(got.Rob)-1]
		asks := slices.ContainsFunc(got.Bus, func(q api.Request) bool { return q == api.Request{Kind: api.RLoad, Line: 16, Left: 3} })
		drains := 0
		for _, q := range got.Bus[was:] {
			if q.Kind == api.RDrain {
				drains++
			}
		}
		if !e.Known || e.Is != x.is || e.Value != x.value || got.Asked-drains != x.asked || asks != (x.asked == 1) {
			t.Errorf("%s: %+v, bus %+v, asked %d", x.name, e, got.Bus, got.Asked)
		}
	}
}

// P21.2, 4: the last slot is for a load that is visible, as things stand when it is asked.
func TestLastSlot(t *testing.T) {
	full := []api.Request{{Kind: api.RWord, Line: 32, Left: 4}, {Kind: api.RLoad, Line: 48, Left: 4}}
	for _, x := range []struct {
		name string
		rob  []api.Entry
		bus  []api.Request
		is   int
	}{
		{"behind a jump", []api.Entry{turn}, full, api.EWait},
		{"visible", []api.Entry{slow}, full, api.EBus},
		{"no slot at all", []api.Entry{slow}, append(slices.Clone(full), api.Request{Kind: api.RDrain, Line: 64, Left: 4}), api.EWait},
	} {
		c := still(shape(), append(x.rob, load(1, 0, 16))...)
		c.Bus = x.bus
		if e := step(t, c).Rob[len(x.rob)]; e.Is != x.is {
			t.Errorf("%s: %+v", x.name, e)
		}
	}
	c := still(shape(), slow, is(at(load(2, 0, 0), 48), api.EBus), load(1, 0, 16))
	c.Bus = full
	if e := step(t, c).Rob[2]; e.Is != api.EBus {
		t.Errorf("behind a load that is known: %+v", e)
	}
	// One who starts ahead may take the room.
	s := shape()
	s.Slots = 2
	c = still(s, turn, load(1, 0, 16))
	c.Bus = nil
	if got := step(t, c); got.Rob[1].Is != api.EBus || len(got.Bus) != 1 {
		t.Errorf("the only slot but the last: %+v", got.Bus)
	}
	c.Bus = full[:1]
	if got := step(t, c); got.Rob[1].Is != api.EWait {
		t.Errorf("behind a request for words: %+v", got.Rob[1])
	}
}

// P21.2, 5: at most Width enter, as long as there are fewer than Rob.
func TestEnter(t *testing.T) {
	words := []api.Fetched{{PC: 0, Guess: 40}, {PC: 4, Guess: 8}, {PC: 8, Guess: 12}}
	for _, x := range []struct{ width, rob, have, want int }{{1, 8, 0, 1}, {2, 8, 0, 2}, {2, 8, 6, 2}, {2, 8, 7, 1}, {2, 8, 8, 0}, {2, 3, 2, 1}, {1, 2, 2, 0}} {
		s := shape()
		s.Width, s.Rob = x.width, x.rob
		c := still(s, slices.Repeat([]api.Entry{slow}, x.have)...)
		c.Prog, c.Fetched = []uint32{0x00500093, 0x00100073, 0}, slices.Clone(words)
		got := step(t, c)
		want := []api.Entry{
			{No: 20, Guess: 40, Inst: api.Inst{Op: api.Addi, Rd: 1, Imm: 5}},
			{No: 21, PC: 4, Guess: 8, Inst: api.Inst{Op: api.Ebreak}, Is: api.EDone, Halt: api.HBreak},
		}
		if !slices.Equal(got.Rob[x.have:], want[:x.want]) || got.Next != 20+x.want || !slices.Equal(got.Fetched, words[x.want:]) {
			t.Errorf("%+v: %+v, %+v, %d", x, got.Rob, got.Fetched, got.Next)
		}
	}
}

// P21.2, 6: fetching from a line that is there, up to Width and Queue, and where there is no word.
func TestFetch(t *testing.T) {
	prog := []uint32{0x00500093, 0x00500093, 0, 0x00500093, 0x00500093}
	base := func(fetch uint32) api.Core {
		c := core.New(shape(), prog, memory())
		c.Fetch = fetch
		c.Words.Sets[0] = []api.Way{{Line: 16}, {Line: 0}}
		return c
	}
	got := step(t, base(0))
	if !slices.Equal(got.Fetched, []api.Fetched{{PC: 0, Guess: 4}, {PC: 4, Guess: 8}}) || got.Fetch != 8 || got.Words.Sets[0][0].Line != 0 || got.Stop {
		t.Errorf("two: %+v", got)
	}
	got = step(t, base(8))
	if !slices.Equal(got.Fetched, []api.Fetched{{PC: 8, Guess: 12}, {PC: 12, Guess: 16}}) {
		t.Errorf("a word that is no instruction: %+v", got.Fetched)
	}
	got = step(t, base(16))
	if !slices.Equal(got.Fetched, []api.Fetched{{PC: 16, Guess: 20}, {PC: 20, Guess: 24}}) || !got.Stop || got.Fetch != 20 {
		t.Errorf("over the end: %+v, %v, %d", got.Fetched, got.Stop, got.Fetch)
	}
	for _, pc := range []uint32{20, 2, 0xfffffffc} {
		got = step(t, base(pc))
		if !slices.Equal(got.Fetched, []api.Fetched{{PC: pc, Guess: pc + 4}}) || !got.Stop || got.Fetch != pc || len(got.Bus) != 0 {
			t.Errorf("no word at %d: %+v", pc, got)
		}
	}
	c := base(0)
	c.Stop = true
	if got = step(t, c); len(got.Fetched) != 0 {
		t.Errorf("stopped: %+v", got.Fetched)
	}
	c = base(0)
	c.Conf.Width = 1
	if got = step(t, c); len(got.Fetched) != 1 {
		t.Errorf("width 1: %+v", got.Fetched)
	}
	for have := 0; have <= 4; have++ {
		c = base(0)
		c.Rob = still(shape(), slices.Repeat([]api.Entry{slow}, 8)...).Rob
		c.Next = 20
		c.Fetched = make([]api.Fetched, have)
		if got = step(t, c); len(got.Fetched) != min(have+2, 4) {
			t.Errorf("%d are fetched: %d", have, len(got.Fetched))
		}
	}
}

// P21.2, 6: a line that is not there is asked for once, where there is room.
func TestFetchAsks(t *testing.T) {
	prog := make([]uint32, 8)
	word := api.Request{Kind: api.RWord, Line: 16, Left: 9}
	other := api.Request{Kind: api.RLoad, Line: 16, Left: 9}
	write := api.Request{Kind: api.RWrite, Line: 16, Left: 9, Data: data('w')}
	for _, x := range []struct {
		name string
		bus  []api.Request
		asks bool
	}{
		{"none", nil, true}, {"it is asked for", []api.Request{word}, false}, {"a load of it", []api.Request{other}, true},
		{"no room", []api.Request{other, other}, false}, {"writes", []api.Request{write, write, write, other}, true},
		{"words of another line", []api.Request{{Kind: api.RWord, Line: 0, Left: 9}}, true},
	} {
		c := core.New(shape(), prog, memory())
		c.Fetch, c.Bus, c.Asked = 20, x.bus, 1
		c.Words.Sets[0] = []api.Way{{Line: 0}}
		got := step(t, c)
		want := slices.Clone(x.bus)
		if len(want) > 0 {
			want[0].Left--
		}
		if x.asks {
			want = append(want, api.Request{Kind: api.RWord, Line: 16, Left: 5})
		}
		if !slices.Equal(got.Bus, want) || got.Asked != len(want)-len(x.bus)+1 || len(got.Fetched) != 0 || got.Fetch != 20 || got.Stop {
			t.Errorf("%s: %+v, asked %d", x.name, got.Bus, got.Asked)
		}
	}
}

// P21.2, 6: guesses of jumps, by the tables or by the tape, which alone is counted.
func TestFetchGuesses(t *testing.T) {
	prog := encoded(api.Inst{Op: api.Beq, Imm: 12}, api.Inst{Op: api.Addi}, api.Inst{Op: api.Jal, Imm: 8}, api.Inst{Op: api.Jal, Imm: 8})
	for _, tables := range []bool{false, true} {
		c := core.New(shape(), prog, memory())
		c.Conf.Tables, c.Conf.Tape, c.Guessed = tables, []uint32{100, 8, 4}, 4
		c.Words.Sets[0] = []api.Way{{Line: 0}}
		c.Guess.Slots[0] = api.Slot{PC: 0, Next: 12}
		got := step(t, c)
		want, guessed := []api.Fetched{{PC: 0, Guess: 8}, {PC: 8, Guess: 4}}, 6
		if tables {
			want, guessed = []api.Fetched{{PC: 0, Guess: 12}, {PC: 12, Guess: 16}}, 4
		}
		if !slices.Equal(got.Fetched, want) || got.Guessed != guessed || got.Fetch != want[1].Guess {
			t.Errorf("tables %v: %+v, %d, %d", tables, got.Fetched, got.Guessed, got.Fetch)
		}
	}
	c := core.New(shape(), prog, memory())
	c.Words.Sets[0] = []api.Way{{Line: 0}}
	c.Fetch = 4
	c.Conf.Tape = []uint32{100}
	if got := step(t, c); !slices.Equal(got.Fetched, []api.Fetched{{PC: 4, Guess: 8}, {PC: 8, Guess: 100}}) || got.Guessed != 1 {
		t.Errorf("one jump of two words: %+v, %d", got.Fetched, got.Guessed)
	}
}

// P21.2, 7: the first store is drained, or its line asked for, once, and up to the last slot.
func TestDrain(t *testing.T) {
	stores := []api.Put{{Addr: 20, Data: "abcd"}, {Addr: 40, Data: "e"}}
	read := api.Request{Kind: api.RLoad, Line: 16, Left: 9}
	for _, halt := range []int{0, 7} {
		for _, x := range []struct {
			name string
			bus  []api.Request
			asks bool
		}{
			{"none", nil, true}, {"a load of the line", []api.Request{read, read}, true}, {"no slot", []api.Request{read, read, read}, false},
			{"it is asked for", []api.Request{{Kind: api.RDrain, Line: 16, Left: 9}}, false}, {"another line is", []api.Request{{Kind: api.RDrain, Line: 32, Left: 9}}, true},
		} {
			c := still(shape())
			c.Stores, c.Bus, c.Halt, c.Asked = stores, x.bus, halt, 1
			c.Data.Sets[0] = []api.Way{{Line: 32, Dirty: true, Data: data('c')}}
			got := step(t, c)
			if asks := len(got.Bus) > len(x.bus); asks != x.asks || asks && (got.Bus[len(x.bus)] != api.Request{Kind: api.RDrain, Line: 16, Left: 5} || got.Asked != 2) {
				t.Errorf("%s: %+v", x.name, got.Bus)
			}
			if !slices.Equal(got.Stores, stores) || len(got.Bus) > len(x.bus)+1 {
				t.Errorf("%s: %+v", x.name, got.Stores)
			}
		}
		c := still(shape())
		c.Stores, c.Halt = stores, halt
		c.Data.Sets[0] = []api.Way{{Line: 32, Data: data('c')}, {Line: 16, Data: data('b')}}
		got := step(t, c)
		if !slices.Equal(got.Stores, stores[1:]) || got.Data.Sets[0][0] != (api.Way{Line: 16, Dirty: true, Data: "bbbbabcdbbbbbbbb"}) || len(got.Bus) != 0 {
			t.Errorf("drained: %+v, %+v", got.Stores, got.Data)
		}
	}
}

// P21.2, 7: behind the halt dirty lines are written, one a cycle, when no stores are left.
func TestWriteBack(t *testing.T) {
	base := func(halt int) api.Core {
		c := still(shape())
		c.Halt, c.Asked = halt, 5
		c.Data.Sets[0] = []api.Way{{Line: 32, Dirty: true, Data: data('C')}, {Line: 16, Dirty: true, Data: data('B')}}
		return c
	}
	got := step(t, base(7))
	if !slices.Equal(got.Bus, []api.Request{{Kind: api.RWrite, Line: 32, Left: 7, Data: data('C')}}) || got.Asked != 6 {
		t.Errorf("bus: %+v, %d", got.Bus, got.Asked)
	}
	if !slices.Equal(got.Data.Sets[0], []api.Way{{Line: 32, Data: data('C')}, {Line: 16, Dirty: true, Data: data('B')}}) {
		t.Errorf("data: %+v", got.Data)
	}
	if got := step(t, base(0)); len(got.Bus) != 0 {
		t.Errorf("ahead of the halt: %+v", got.Bus)
	}
	c := base(7)
	c.Stores = []api.Put{{Addr: 16, Data: "x"}}
	got = step(t, c)
	if len(got.Stores) != 0 || !slices.Equal(got.Bus, []api.Request{{Kind: api.RWrite, Line: 16, Left: 7, Data: "x" + data('B')[1:]}}) {
		t.Errorf("in the cycle of the last draining: %+v", got.Bus)
	}
	c = base(7)
	c.Stores = []api.Put{{Addr: 16, Data: "x"}, {Addr: 32, Data: "y"}}
	if got = step(t, c); len(got.Stores) != 1 || len(got.Bus) != 0 {
		t.Errorf("a store is left: %+v", got.Bus)
	}
	c = base(7)
	c.Bus = slices.Repeat([]api.Request{{Kind: api.RLoad, Line: 64, Left: 9}}, 5)
	if got = step(t, c); len(got.Bus) != 6 {
		t.Errorf("writes need no room: %+v", got.Bus)
	}
	c = base(7)
	c.Data.Sets[0][0].Data = ""
	if got = step(t, c); len(got.Bus) != 0 || !got.Data.Sets[0][0].Dirty {
		t.Errorf("the first one has no data: %+v", got.Bus)
	}
}

// P21.3: Idle.
func TestIdle(t *testing.T) {
	idle := still(shape())
	idle.Halt = api.HFetch
	idle.Data.Sets[0] = []api.Way{{Line: 16, Data: data('b')}}
	if !core.Idle(idle) {
		t.Error("idle")
	}
	for name, change := range map[string]func(*api.Core){
		"it runs":    func(c *api.Core) { c.Halt = 0 },
		"a store":    func(c *api.Core) { c.Stores = []api.Put{{Addr: 4, Data: "a"}} },
		"a request":  func(c *api.Core) { c.Bus = []api.Request{{Kind: api.RWord, Left: 1}} },
		"dirty data": func(c *api.Core) { c.Data.Sets = [][]api.Way{{{Line: 0}, {Line: 16, Dirty: true, Data: data('b')}}} },
	} {
		c := idle
		change(&c)
		if core.Idle(c) {
			t.Errorf("%s: not idle", name)
		}
	}
	core.Idle(api.Core{})
	core.Idle(api.Core{Halt: 3, Data: api.Cache{Ways: -1, Sets: [][]api.Way{{{Dirty: true}}}}})
}
