package core

import (
	"slices"

	"auspex/api"
	"auspex/bus"
	"auspex/cache"
	"auspex/conf"
	"auspex/exec"
	"auspex/gate"
	"auspex/guess"
	"auspex/inst"
	"auspex/lsq"
	"auspex/mem"
	"auspex/pick"
	"auspex/retire"
	"auspex/source"
	"auspex/squash"
	"auspex/taint"
	"auspex/view"
)

// machine is a core within a cycle.
type machine struct {
	api.Core
}

// stages are what a cycle does, in order.
func stages() []func(*machine) {
	return []func(*machine){
		(*machine).tick,
		(*machine).work,
		(*machine).retire,
		(*machine).start,
		(*machine).enter,
		(*machine).fetch,
		(*machine).drain,
	}
}

// ask puts a request on the bus; room tells whether one may be asked for: the last slot is kept for what must go on.
func (m *machine) ask(kind int, line uint32, data string) {
	m.Bus = bus.Push(m.Bus, kind, line, conf.Lat(m.Conf, m.Asked), data)
	m.Asked++
}

func (m *machine) room(last bool) bool {
	slots := m.Conf.Slots
	if !last {
		slots--
	}
	return bus.Reads(m.Bus) < slots
}

// bring has a line stand among the data.
func (m *machine) bring(line uint32) {
	asked := false
	m.Data, m.Bus, asked = retire.Bring(m.Data, m.Bus, m.Mem, line, conf.Lat(m.Conf, m.Asked))
	if asked {
		m.Asked++
	}
}

// take has a load go on with the bytes that memory has for it, with all that is on its way there.
func (m *machine) take(k int) {
	e := m.Rob[k]
	bytes, _ := mem.Read(view.All(m.Stores, m.Data, m.Bus, m.Mem), e.Addr, inst.Size(e.Inst))
	m.Rob[k] = exec.Take(e, bytes)
}

func (m *machine) tick() {
	q, done, ok := bus.Tick(m.Bus)
	m.Bus = q
	if !ok {
		return
	}
	switch done.Kind {
	case api.RLoad:
		m.fill(done.Line)
	case api.RWord:
		m.Words, _, _ = cache.Put(m.Words, done.Line, "", false)
	case api.RDrain:
		m.bring(done.Line)
	case api.RWrite:
		m.Mem = view.Over(m.Mem, api.Put{Addr: done.Line, Data: done.Data})
	}
}

// fill has all loads go on that wait for a line.
func (m *machine) fill(line uint32) {
	for k, e := range m.Rob {
		if e.Is == api.EBus && bus.LineOf(e.Addr) == line {
			m.Rob[k].Filled = true
			m.take(k)
		}
	}
}

func (m *machine) work() {
	if m.Halt != api.HRuns {
		return
	}
	for k, e := range m.Rob {
		m.Rob[k] = exec.Go(e)
	}
	for k, e := range m.Rob {
		_, second := inst.Reads(e.Inst)
		if value, ok := source.Read(m.Rob, m.Regs, k, second); ok {
			m.Rob[k] = exec.Store(e, value)
		}
	}
	if k := squash.Wrong(m.Rob); k >= 0 {
		m.Rob = squash.Cut(m.Rob, k)
		m.Fetched = nil
		m.Fetch = m.Rob[k].Next
		m.Stop = false
	}
}

func (m *machine) retire() {
	for range m.Conf.Width {
		if m.Halt != api.HRuns || len(m.Rob) == 0 || m.Rob[0].Is != api.EDone {
			return
		}
		m.retireFirst()
	}
}

func (m *machine) retireFirst() {
	e := m.Rob[0]
	told := exec.Told(e)
	if told.Halt != api.HRuns {
		m.Retired = append(m.Retired, told)
		m.Halt = told.Halt
		m.Rob, m.Fetched, m.Stop = nil, nil, true
		return
	}
	if put, ok := retire.Stored(told); ok {
		if len(m.Stores) >= m.Conf.Stores {
			return
		}
		m.Stores = append(m.Stores, put)
	}
	m.Retired = append(m.Retired, told)
	if inst.Kind(e.Inst) == api.KLoad {
		m.bring(e.Addr)
	}
	m.Regs = retire.Apply(m.Regs, told)
	m.Guess = guess.Train(m.Guess, told.PC, told.Next, e.Inst)
	m.Rob = m.Rob[1:]
}

func (m *machine) start() {
	if m.Halt != api.HRuns {
		return
	}
	kinds, can := make([]int, len(m.Rob)), make([]bool, len(m.Rob))
	busy := false
	for k, e := range m.Rob {
		kinds[k] = inst.Kind(e.Inst)
		can[k] = m.can(k)
		busy = busy || e.Is == api.EGoes && kinds[k] == api.KDiv
	}
	for _, k := range pick.Pick(m.Conf.Width, busy, kinds, can) {
		m.begin(k)
	}
}

// can tells whether an entry can start.
func (m *machine) can(k int) bool {
	e := m.Rob[k]
	if e.Is != api.EWait {
		return false
	}
	reg, _ := inst.Reads(e.Inst)
	_, first := source.Read(m.Rob, m.Regs, k, reg)
	_, _, both := source.Both(m.Rob, m.Regs, k)
	may := gate.May(m.Conf.Mode, m.Rob, k)
	switch inst.Kind(e.Inst) {
	case api.KLoad:
		return e.Known || first && may
	case api.KStore:
		return !e.Known && first && may
	}
	return both && may
}

// begin starts an entry that can.
func (m *machine) begin(k int) {
	e := m.Rob[k]
	a, b, _ := source.Both(m.Rob, m.Regs, k)
	switch inst.Kind(e.Inst) {
	case api.KLoad:
		m.Rob[k] = exec.Address(e, len(m.Mem), a)
		if m.Rob[k].Known {
			m.load(k)
		}
	case api.KStore:
		m.Rob[k] = exec.Address(e, len(m.Mem), a)
	default:
		m.Rob[k] = exec.Start(e, a, b)
	}
}

// load has a load whose address is known go on, as far as it may.
func (m *machine) load(k int) {
	what, bytes := lsq.Decide(m.Rob, m.Stores, k)
	line := bus.LineOf(m.Rob[k].Addr)
	switch {
	case what == api.LTake:
		m.Rob[k] = exec.Take(m.Rob[k], bytes)
	case what != api.LMem:
	case m.near(line):
		m.take(k)
	case bus.Has(m.Bus, line, api.RLoad):
		m.Rob[k].Is = api.EBus
	case m.room(taint.Visible(m.Rob, k)) && !bus.Has(m.Bus, line, api.RDrain):
		m.ask(api.RLoad, line, "")
		m.Rob[k].Is = api.EBus
	}
}

// near tells whether a line needs no request: it stands among the data, or came for an entry that has not retired.
func (m *machine) near(line uint32) bool {
	if _, _, ok := cache.Find(m.Data, line); ok {
		return true
	}
	return slices.ContainsFunc(m.Rob, func(e api.Entry) bool { return e.Filled && bus.LineOf(e.Addr) == line })
}

func (m *machine) enter() {
	if m.Halt != api.HRuns {
		return
	}
	for range m.Conf.Width {
		if len(m.Rob) >= m.Conf.Rob || len(m.Fetched) == 0 {
			return
		}
		m.Rob = squash.Enter(m.Rob, m.Next, m.Fetched[0], m.Prog)
		m.Next++
		m.Fetched = m.Fetched[1:]
	}
}

func (m *machine) fetch() {
	if m.Halt != api.HRuns {
		return
	}
	for range m.Conf.Width {
		if m.Stop || len(m.Fetched) >= m.Conf.Queue || !m.fetchWord() {
			return
		}
	}
}

// fetchWord fetches the word at Fetch, and tells whether its line was there.
func (m *machine) fetchWord() bool {
	pc := m.Fetch
	w, ok := mem.Fetch(m.Prog, pc)
	if !ok {
		m.Fetched = append(m.Fetched, api.Fetched{PC: pc, Guess: pc + 4})
		m.Stop = true
		return true
	}
	line := bus.LineOf(pc)
	if _, _, there := cache.Find(m.Words, line); !there {
		if !bus.Has(m.Bus, line, api.RWord) && m.room(false) {
			m.ask(api.RWord, line, "")
		}
		return false
	}
	m.Words = cache.Touch(m.Words, line)
	m.Fetch = m.guessed(pc, w)
	m.Fetched = append(m.Fetched, api.Fetched{PC: pc, Guess: m.Fetch})
	return true
}

// guessed is what may come behind a word.
func (m *machine) guessed(pc, w uint32) uint32 {
	i, e := inst.Decode(w)
	if e != api.OK || inst.Kind(i) != api.KJump {
		return pc + 4
	}
	if m.Conf.Tables {
		return guess.Next(m.Guess, pc, i)
	}
	next := conf.Tape(m.Conf, m.Guessed, pc)
	m.Guessed++
	return next
}

func (m *machine) drain() {
	ok := false
	m.Stores, m.Data, ok = retire.Drain(m.Stores, m.Data)
	if !ok && len(m.Stores) > 0 {
		line := bus.LineOf(m.Stores[0].Addr)
		if !bus.Has(m.Bus, line, api.RDrain) && m.room(true) {
			m.ask(api.RDrain, line, "")
		}
	}
	if len(m.Stores) > 0 || m.Halt == api.HRuns {
		return
	}
	if w, dirty := cache.Dirty(m.Data); dirty && w.Data != "" {
		m.ask(api.RWrite, w.Line, w.Data)
		m.Data = cache.Clean(m.Data, w.Line)
	}
}
