package script_test

import (
	"math"
	"math/rand"
	"reflect"
	"strings"
	"testing"

	"auspex/alu"
	"auspex/api"
	"auspex/bus"
	"auspex/cache"
	"auspex/conf"
	"auspex/core"
	"auspex/divide"
	"auspex/exec"
	"auspex/gate"
	"auspex/gauge"
	"auspex/guess"
	"auspex/inst"
	"auspex/lsq"
	"auspex/mem"
	"auspex/pick"
	"auspex/retire"
	"auspex/script"
	"auspex/seq"
	"auspex/source"
	"auspex/squash"
	"auspex/taint"
	"auspex/trace"
	"auspex/twin"
	"auspex/view"
	"auspex/watch"
	"auspex/word"
)

// call is one of the layers' calls, and how often it is asked.
type call struct {
	name  string
	f     any
	times int
}

func calls() []call {
	return []call{
		{"word.Field", word.Field, 3000}, {"word.Set", word.Set, 3000}, {"word.Sext", word.Sext, 1000}, {"word.Bytes", word.Bytes, 1000}, {"word.Join", word.Join, 1000},
		{"inst.Decode", inst.Decode, 1000}, {"inst.Encode", inst.Encode, 3000}, {"inst.Kind", inst.Kind, 500}, {"inst.Size", inst.Size, 500}, {"inst.Reads", inst.Reads, 500}, {"inst.Writes", inst.Writes, 500},
		{"alu.Do", alu.Do, 3000}, {"alu.Mul", alu.Mul, 1000}, {"alu.Taken", alu.Taken, 1000}, {"alu.Next", alu.Next, 1000},
		{"divide.Do", divide.Do, 3000}, {"divide.Took", divide.Took, 3000}, {"divide.Bits", divide.Bits, 500},
		{"mem.Right", mem.Right, 3000}, {"mem.Read", mem.Read, 3000}, {"mem.Write", mem.Write, 3000}, {"mem.Load", mem.Load, 1000}, {"mem.Clean", mem.Clean, 500}, {"mem.Fetch", mem.Fetch, 1000},
		{"seq.New", seq.New, 200}, {"seq.Step", seq.Step, 3000}, {"seq.Run", seq.Run, 100}, {"seq.Value", seq.Value, 3000}, {"seq.Target", seq.Target, 1000},
		{"trace.Of", trace.Of, 500}, {"trace.Run", trace.Run, 100}, {"trace.Same", trace.Same, 500},
		{"conf.Clean", conf.Clean, 1000}, {"conf.Right", conf.Right, 1000}, {"conf.Lat", conf.Lat, 1000}, {"conf.Tape", conf.Tape, 1000}, {"conf.Most", conf.Most, 500}, {"conf.Bound", conf.Bound, 500}, {"conf.Drain", conf.Drain, 500},
		{"bus.Push", bus.Push, 1000}, {"bus.Tick", bus.Tick, 1000}, {"bus.Has", bus.Has, 1000}, {"bus.Reads", bus.Reads, 500}, {"bus.LineOf", bus.LineOf, 500},
		{"cache.New", cache.New, 500}, {"cache.Right", cache.Right, 2000}, {"cache.Find", cache.Find, 3000}, {"cache.Touch", cache.Touch, 3000}, {"cache.Put", cache.Put, 3000},
		{"cache.Write", cache.Write, 3000}, {"cache.Clean", cache.Clean, 3000}, {"cache.Dirty", cache.Dirty, 2000}, {"cache.Tags", cache.Tags, 2000},
		{"view.Below", view.Below, 1000}, {"view.Under", view.Under, 1000}, {"view.All", view.All, 1000}, {"view.Over", view.Over, 1000}, {"view.Cut", view.Cut, 1000},
		{"guess.New", guess.New, 1}, {"guess.Right", guess.Right, 1000}, {"guess.Next", guess.Next, 3000}, {"guess.Train", guess.Train, 3000},
		{"source.Maker", source.Maker, 3000}, {"source.Read", source.Read, 3000}, {"source.Both", source.Both, 3000},
		{"taint.Safe", taint.Safe, 1000}, {"taint.Front", taint.Front, 1000}, {"taint.Visible", taint.Visible, 1000}, {"taint.Roots", taint.Roots, 2000}, {"taint.Tainted", taint.Tainted, 3000},
		{"gate.Tells", gate.Tells, 500}, {"gate.May", gate.May, 3000}, {"gate.Needs", gate.Needs, 500},
		{"lsq.Decide", lsq.Decide, 5000}, {"lsq.Laps", lsq.Laps, 2000}, {"lsq.Holds", lsq.Holds, 2000},
		{"pick.Pick", pick.Pick, 3000},
		{"exec.Start", exec.Start, 3000}, {"exec.Address", exec.Address, 3000}, {"exec.Go", exec.Go, 1000}, {"exec.Take", exec.Take, 1000}, {"exec.Store", exec.Store, 1000}, {"exec.Told", exec.Told, 1000},
		{"squash.Wrong", squash.Wrong, 1000}, {"squash.Cut", squash.Cut, 2000}, {"squash.Right", squash.Right, 2000}, {"squash.Enter", squash.Enter, 2000},
		{"retire.Apply", retire.Apply, 1000}, {"retire.Stored", retire.Stored, 1000}, {"retire.Bring", retire.Bring, 2000}, {"retire.Drain", retire.Drain, 2000},
		{"core.New", core.New, 300}, {"core.Right", core.Right, 1000}, {"core.Step", core.Step, 3000}, {"core.Run", core.Run, 6}, {"core.Idle", core.Idle, 500},
		{"watch.See", watch.See, 1000}, {"watch.Run", watch.Run, 6}, {"watch.Same", watch.Same, 1000}, {"watch.First", watch.First, 500},
		{"twin.Far", twin.Far, 500}, {"twin.Agree", twin.Agree, 50}, {"twin.Run", twin.Run, 4}, {"twin.Show", twin.Show, 100},
		{"gauge.Rate", gauge.Rate, 1000}, {"gauge.Mean", gauge.Mean, 1000}, {"gauge.Most", gauge.Most, 1000}, {"gauge.Order", gauge.Order, 1000}, {"gauge.Text", gauge.Text, 1000}, {"gauge.Of", gauge.Of, 500},
		{"script.Right", script.Right, 500}, {"script.Print", script.Print, 500}, {"script.Parse", script.Parse, 500}, {"script.Run", script.Run, 50},
	}
}

// maker makes values of any type; mild ones are such as may be more often.
type maker struct {
	r    *rand.Rand
	mild bool
}

func (m maker) number() int {
	if m.mild || m.r.Intn(3) > 0 {
		return m.r.Intn(52) - 2
	}
	return []int{math.MinInt, math.MinInt + 1, math.MinInt32, -1, 63, 64, 65, 255, 256, 600, 601, 1 << 31, 1 << 32, 1<<32 + 1, math.MaxInt - 1, math.MaxInt}[m.r.Intn(16)]
}

func (m maker) word() uint32 {
	switch m.r.Intn(4) {
	case 0:
		return m.r.Uint32()
	case 1:
		return []uint32{0x00500093, 0x00002083, 0x00102223, 0x02209463, 0x0220c1b3, 0x0000006f, 0x00008067, 0x00100073, 0xffffffff, 0xfffffffc, 1 << 31}[m.r.Intn(11)]
	}
	return uint32(m.r.Intn(20)) * 4
}

func (m maker) text() string {
	b := []byte(strings.Repeat("\x04", []int{0, 1, 2, 4, 5, 15, 16, 16, 16, 17, 64, 300}[m.r.Intn(12)]))
	for k := range b {
		if m.r.Intn(2) == 0 {
			b[k] = byte(m.r.Intn(256))
		}
	}
	return string(b)
}

func (m maker) float() float64 {
	return []float64{math.NaN(), math.Inf(1), math.Inf(-1), 0, math.Copysign(0, -1), 1, -0.5, 1e12, 1e300, math.SmallestNonzeroFloat64, m.r.NormFloat64() * 1000}[m.r.Intn(11)]
}

func (m maker) value(t reflect.Type) reflect.Value {
	v := reflect.New(t).Elem()
	switch t.Kind() {
	case reflect.Int:
		v.SetInt(int64(m.number()))
	case reflect.Uint32:
		v.SetUint(uint64(m.word()))
	case reflect.Bool:
		v.SetBool(m.r.Intn(2) == 0)
	case reflect.String:
		v.SetString(m.text())
	case reflect.Float64:
		v.SetFloat(m.float())
	case reflect.Array:
		for k := range t.Len() {
			v.Index(k).Set(m.value(t.Elem()))
		}
	case reflect.Slice:
		n := m.r.Intn(6)
		if m.r.Intn(8) == 0 {
			n = m.r.Intn(80)
		}
		v.Set(reflect.MakeSlice(t, n, n+m.r.Intn(3)))
		for k := range n {
			v.Index(k).Set(m.value(t.Elem()))
		}
	case reflect.Struct:
		for k := range t.NumField() {
			v.Field(k).Set(m.value(t.Field(k).Type))
		}
	}
	return m.tamed(v)
}

// tamed has many values be such as may be, so that calls do not turn all of them away.
func (m maker) tamed(v reflect.Value) reflect.Value {
	if m.r.Intn(4) == 0 {
		return v
	}
	switch x := v.Interface().(type) {
	case api.Entry:
		x.Inst, _ = inst.Decode(m.word())
		x.Is, x.Halt, x.Left = m.r.Intn(5), m.r.Intn(20)/18, m.r.Intn(3)
		return reflect.ValueOf(x)
	case api.Conf:
		return reflect.ValueOf(conf.Clean(x))
	case api.Cache:
		c := cache.New(1+m.r.Intn(4), 1+m.r.Intn(2))
		for range m.r.Intn(5) {
			c, _, _ = cache.Put(c, m.word(), strings.Repeat("z", m.r.Intn(2)*16), m.r.Intn(2) == 0)
		}
		return reflect.ValueOf(c)
	case api.Guess:
		g := guess.New()
		for range m.r.Intn(6) {
			g = guess.Train(g, m.word(), m.word(), api.Inst{Op: api.Jal + m.r.Intn(3), Rd: m.r.Intn(2), Rs1: 1})
		}
		return reflect.ValueOf(g)
	case api.Core:
		return reflect.ValueOf(m.core(x))
	case api.Plan:
		p := api.Plan{Conf: conf.Clean(x.Conf), Prog: x.Prog, Mem: mem.Clean(x.Mem), Cycles: m.r.Intn(60)}
		return reflect.ValueOf(p)
	}
	return v
}

// core is a core that went on for a while, with one part of another.
func (m maker) core(odd api.Core) api.Core {
	c := core.Run(odd.Conf, odd.Prog, odd.Mem, m.r.Intn(40))
	switch m.r.Intn(8) {
	case 0:
		c.Bus = odd.Bus
	case 1:
		c.Asked, c.Guessed, c.Cycle, c.Next = odd.Asked, odd.Guessed, odd.Cycle, odd.Next
	case 2:
		c.Fetch, c.Stop, c.Regs = odd.Fetch, odd.Stop, odd.Regs
	case 3:
		c.Retired = odd.Retired
	case 4:
		c.Stores = odd.Stores
	case 5:
		c.Rob = odd.Rob[:min(len(odd.Rob), c.Conf.Rob)]
		for k := range c.Rob {
			c.Rob[k].No = c.Next + k
		}
		c.Next += len(c.Rob)
	}
	return c
}

// copied is a value that shares no list with another one.
func copied(v reflect.Value) reflect.Value {
	out := reflect.New(v.Type()).Elem()
	out.Set(v)
	switch v.Kind() {
	case reflect.Slice:
		if v.IsNil() {
			return out
		}
		out.Set(reflect.MakeSlice(v.Type(), v.Len(), v.Len()))
		for k := range v.Len() {
			out.Index(k).Set(copied(v.Index(k)))
		}
	case reflect.Struct:
		for k := range v.NumField() {
			out.Field(k).Set(copied(v.Field(k)))
		}
	}
	return out
}

// ask asks once, and tells what was answered; what was panicked with is a fault.
func ask(t *testing.T, c call, args []reflect.Value) (out []any) {
	t.Helper()
	defer func() {
		if p := recover(); p != nil {
			t.Fatalf("%s panics: %v", c.name, p)
		}
	}()
	f := reflect.ValueOf(c.f)
	answers := []reflect.Value(nil)
	if f.Type().IsVariadic() {
		answers = f.CallSlice(args)
	} else {
		answers = f.Call(args)
	}
	for _, a := range answers {
		out = append(out, a.Interface())
	}
	return out
}

// equal holds answers and arguments against each other; a float that is none is one that is none.
func equal(a, b any) bool {
	if x, ok := a.(float64); ok && x != x {
		y, ok := b.(float64)
		return ok && y != y
	}
	if x, ok := a.([]float64); ok {
		y := b.([]float64)
		for k := range x {
			if !equal(x[k], y[k]) {
				return false
			}
		}
		return len(x) == len(y)
	}
	return reflect.DeepEqual(a, b)
}

// P1, R1, R4: each call ends and does not panic, answers the same of the same, and leaves what it was handed as it was.
func TestAllCalls(t *testing.T) {
	for _, c := range calls() {
		r := rand.New(rand.NewSource(int64(len(c.name)) + 38))
		f := reflect.TypeOf(c.f)
		for n := range c.times {
			m := maker{r, n%2 == 0}
			var args, kept []reflect.Value
			for k := range f.NumIn() {
				args = append(args, m.value(f.In(k)))
				kept = append(kept, copied(args[k]))
			}
			first := ask(t, c, args)
			second := ask(t, c, args)
			for k := range first {
				if !equal(first[k], second[k]) {
					t.Fatalf("%s answers twice, and not the same: %+v, %+v", c.name, first[k], second[k])
				}
			}
			for k := range args {
				if !equal(args[k].Interface(), kept[k].Interface()) {
					t.Fatalf("%s changes its argument number %d", c.name, k)
				}
			}
		}
	}
}
