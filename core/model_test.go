package core_test

import (
	"slices"

	"auspex/api"
	"auspex/bus"
	"auspex/cache"
	"auspex/conf"
	"auspex/exec"
	"auspex/gate"
	"auspex/guess"
	"auspex/inst"
	"auspex/lsq"
	"auspex/mem"
	"auspex/pick"
	"auspex/retire"
	"auspex/source"
	"auspex/squash"
	"auspex/taint"
	"auspex/view"
)

// model lets a cycle go by as P21.2 says it, sentence by sentence, of a core that may be.
func model(c api.Core) api.Core {
	c.Rob, c.Fetched, c.Stores, c.Retired = slices.Clone(c.Rob), slices.Clone(c.Fetched), slices.Clone(c.Stores), slices.Clone(c.Retired)
	c.Cycle++
	modelBus(&c)
	if c.Halt == 0 {
		modelWork(&c)
	}
	if c.Halt == 0 {
		modelRetiring(&c)
	}
	if c.Halt == 0 {
		modelStarting(&c)
	}
	if c.Halt == 0 {
		modelEntering(&c)
		modelFetching(&c)
	}
	modelDraining(&c)
	return c
}

func modelAsk(c *api.Core, kind int, line uint32, data string) {
	c.Bus = bus.Push(c.Bus, kind, line, conf.Lat(c.Conf, c.Asked), data)
	c.Asked++
}

func modelBring(c *api.Core, line uint32) {
	d, q, more := retire.Bring(c.Data, c.Bus, c.Mem, line, conf.Lat(c.Conf, c.Asked))
	c.Data, c.Bus = d, q
	if more {
		c.Asked++
	}
}

func modelBytes(c *api.Core, e api.Entry) string {
	s, _ := mem.Read(view.All(c.Stores, c.Data, c.Bus, c.Mem), e.Addr, inst.Size(e.Inst))
	return s
}

func modelBus(c *api.Core) {
	q, r, done := bus.Tick(c.Bus)
	c.Bus = q
	if !done {
		return
	}
	if r.Kind == api.RLoad {
		for k := range c.Rob {
			if c.Rob[k].Is == api.EBus && c.Rob[k].Addr/16*16 == r.Line {
				c.Rob[k].Filled = true
				c.Rob[k] = exec.Take(c.Rob[k], modelBytes(c, c.Rob[k]))
			}
		}
	}
	if r.Kind == api.RWord {
		c.Words, _, _ = cache.Put(c.Words, r.Line, "", false)
	}
	if r.Kind == api.RDrain {
		modelBring(c, r.Line)
	}
	if r.Kind == api.RWrite {
		c.Mem = view.Over(c.Mem, api.Put{Addr: r.Line, Data: r.Data})
	}
}

func modelWork(c *api.Core) {
	for k := range c.Rob {
		c.Rob[k] = exec.Go(c.Rob[k])
	}
	for k := range c.Rob {
		if v, there := source.Read(c.Rob, c.Regs, k, c.Rob[k].Inst.Rs2); there && inst.Kind(c.Rob[k].Inst) == api.KStore {
			c.Rob[k] = exec.Store(c.Rob[k], v)
		}
	}
	wrong := squash.Wrong(c.Rob)
	if wrong == -1 {
		return
	}
	c.Fetch = c.Rob[wrong].Next
	c.Rob = squash.Cut(c.Rob, wrong)
	c.Fetched, c.Stop = nil, false
}

func modelRetiring(c *api.Core) {
	for n := 0; n < c.Conf.Width && len(c.Rob) > 0 && c.Rob[0].Is == api.EDone; n++ {
		e := c.Rob[0]
		s := exec.Told(e)
		kind := inst.Kind(e.Inst)
		if s.Halt == 0 && kind == api.KStore && len(c.Stores) >= c.Conf.Stores {
			return
		}
		c.Retired = append(c.Retired, s)
		if s.Halt != 0 {
			c.Halt, c.Rob, c.Fetched, c.Stop = s.Halt, nil, nil, true
			return
		}
		if kind == api.KStore {
			p, _ := retire.Stored(s)
			c.Stores = append(c.Stores, p)
		}
		if kind == api.KLoad {
			modelBring(c, e.Addr)
		}
		c.Regs = retire.Apply(c.Regs, s)
		c.Guess = guess.Train(c.Guess, s.PC, s.Next, e.Inst)
		c.Rob = c.Rob[1:]
	}
}

func modelStarting(c *api.Core) {
	busy := false
	var kinds []int
	var can []bool
	for k, e := range c.Rob {
		kind := inst.Kind(e.Inst)
		kinds = append(kinds, kind)
		if kind == api.KDiv && e.Is == api.EGoes {
			busy = true
		}
		_, rs1 := source.Read(c.Rob, c.Regs, k, e.Inst.Rs1)
		_, _, both := source.Both(c.Rob, c.Regs, k)
		may := gate.May(c.Conf.Mode, c.Rob, k)
		ok := both && may
		if kind == api.KLoad {
			ok = e.Known || rs1 && may
		}
		if kind == api.KStore {
			ok = !e.Known && rs1 && may
		}
		can = append(can, ok && e.Is == api.EWait)
	}
	for _, k := range pick.Pick(c.Conf.Width, busy, kinds, can) {
		a, _ := source.Read(c.Rob, c.Regs, k, c.Rob[k].Inst.Rs1)
		b, _ := source.Read(c.Rob, c.Regs, k, c.Rob[k].Inst.Rs2)
		if kinds[k] == api.KStore || kinds[k] == api.KLoad {
			if !c.Rob[k].Known {
				c.Rob[k] = exec.Address(c.Rob[k], len(c.Mem), a)
			}
			if kinds[k] == api.KLoad && c.Rob[k].Known {
				modelLoad(c, k)
			}
			continue
		}
		c.Rob[k] = exec.Start(c.Rob[k], a, b)
	}
}

func modelLoad(c *api.Core, k int) {
	e := &c.Rob[k]
	what, bytes := lsq.Decide(c.Rob, c.Stores, k)
	if what == api.LTake {
		*e = exec.Take(*e, bytes)
	}
	if what != api.LMem {
		return
	}
	line := e.Addr / 16 * 16
	_, _, there := cache.Find(c.Data, line)
	for _, f := range c.Rob {
		there = there || f.Filled && f.Addr/16*16 == line
	}
	if there {
		*e = exec.Take(*e, modelBytes(c, *e))
		return
	}
	if bus.Has(c.Bus, line, api.RLoad) {
		e.Is = api.EBus
		return
	}
	room := bus.Reads(c.Bus) < c.Conf.Slots-1 || taint.Visible(c.Rob, k) && bus.Reads(c.Bus) < c.Conf.Slots
	if room && !bus.Has(c.Bus, line, api.RDrain) {
		modelAsk(c, api.RLoad, line, "")
		e.Is = api.EBus
	}
}

func modelEntering(c *api.Core) {
	for n := 0; n < c.Conf.Width && len(c.Rob) < c.Conf.Rob && len(c.Fetched) > 0; n++ {
		c.Rob = squash.Enter(c.Rob, c.Next, c.Fetched[0], c.Prog)
		c.Next++
		c.Fetched = c.Fetched[1:]
	}
}

func modelFetching(c *api.Core) {
	for n := 0; n < c.Conf.Width && !c.Stop && len(c.Fetched) < c.Conf.Queue; n++ {
		pc := c.Fetch
		w, there := mem.Fetch(c.Prog, pc)
		if !there {
			c.Fetched = append(c.Fetched, api.Fetched{PC: pc, Guess: pc + 4})
			c.Stop = true
			return
		}
		line := pc / 16 * 16
		if _, _, found := cache.Find(c.Words, line); !found {
			if !bus.Has(c.Bus, line, api.RWord) && bus.Reads(c.Bus) < c.Conf.Slots-1 {
				modelAsk(c, api.RWord, line, "")
			}
			return
		}
		c.Words = cache.Touch(c.Words, line)
		next := pc + 4
		if i, e := inst.Decode(w); e == api.OK && inst.Kind(i) == api.KJump {
			if c.Conf.Tables {
				next = guess.Next(c.Guess, pc, i)
			} else {
				next = conf.Tape(c.Conf, c.Guessed, pc)
				c.Guessed++
			}
		}
		c.Fetched = append(c.Fetched, api.Fetched{PC: pc, Guess: next})
		c.Fetch = next
	}
}

func modelDraining(c *api.Core) {
	told := false
	c.Stores, c.Data, told = retire.Drain(c.Stores, c.Data)
	if !told && len(c.Stores) > 0 {
		line := c.Stores[0].Addr / 16 * 16
		if !bus.Has(c.Bus, line, api.RDrain) && bus.Reads(c.Bus) < c.Conf.Slots {
			modelAsk(c, api.RDrain, line, "")
		}
	}
	if len(c.Stores) == 0 && c.Halt != 0 {
		if w, dirty := cache.Dirty(c.Data); dirty && w.Data != "" {
			modelAsk(c, api.RWrite, w.Line, w.Data)
			c.Data = cache.Clean(c.Data, w.Line)
		}
	}
}
