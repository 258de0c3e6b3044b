package core_test

import (
	"math/rand"

	"auspex/api"
	"auspex/inst"
)

// encoded are the words of instructions; a test that asks for one that may not be is wrong itself.
func encoded(is ...api.Inst) []uint32 {
	var out []uint32
	for _, i := range is {
		w, e := inst.Encode(i)
		if e != api.OK {
			panic("no word tells an instruction of a test")
		}
		out = append(out, w)
	}
	return out
}

// piece is a few instructions that do something together.
func piece(r *rand.Rand) []api.Inst {
	reg := func() int { return r.Intn(6) }
	at := uint32(4 * r.Intn(20))
	loads := []int{api.Lb, api.Lh, api.Lw, api.Lbu, api.Lhu}
	branches := []int{api.Beq, api.Bne, api.Blt, api.Bge, api.Bltu, api.Bgeu}
	switch r.Intn(12) {
	case 0, 1:
		return []api.Inst{{Op: loads[r.Intn(5)], Rd: reg(), Imm: at}}
	case 2:
		a := reg()
		return []api.Inst{{Op: api.Andi, Rd: a, Rs1: reg(), Imm: 0x3c}, {Op: loads[r.Intn(5)], Rd: reg(), Rs1: a}}
	case 3, 4:
		return []api.Inst{{Op: api.Sb + r.Intn(3), Rs2: reg(), Imm: at}}
	case 5:
		a := reg()
		return []api.Inst{{Op: api.Andi, Rd: a, Rs1: reg(), Imm: 0x3c}, {Op: api.Sb + r.Intn(3), Rs1: a, Rs2: reg()}}
	case 6, 7:
		return []api.Inst{{Op: branches[r.Intn(6)], Rs1: reg(), Rs2: reg(), Imm: uint32(4 * (r.Intn(10) - 3))}}
	case 8:
		return []api.Inst{{Op: api.Div + r.Intn(4), Rd: reg(), Rs1: reg(), Rs2: reg()}, {Op: branches[r.Intn(6)], Rs1: reg(), Rs2: reg(), Imm: uint32(4 * r.Intn(6))}}
	case 9:
		return []api.Inst{{Op: api.Jal, Rd: r.Intn(2), Imm: uint32(4 * (r.Intn(8) - 1))}, {Op: api.Jalr, Rd: r.Intn(2), Rs1: 1, Imm: uint32(4 * r.Intn(2))}}
	case 10:
		return []api.Inst{{Op: api.Mul + r.Intn(4), Rd: reg(), Rs1: reg(), Rs2: reg()}, {Op: api.Lui, Rd: reg(), Imm: r.Uint32() &^ 4095}}
	}
	return []api.Inst{{Op: api.Addi, Rd: reg(), Rs1: reg(), Imm: uint32(r.Intn(40))}}
}

// anyProg is a program of such pieces; some have words that are no instructions, some go round.
func anyProg(r *rand.Rand) []uint32 {
	var is []api.Inst
	for range 1 + r.Intn(22) {
		is = append(is, piece(r)...)
	}
	switch r.Intn(4) {
	case 0:
		is = append(is, api.Inst{Op: api.Ecall + r.Intn(2)})
	case 1:
		is = append(is, api.Inst{Op: api.Jal, Imm: uint32(-4 * len(is))})
	}
	prog := encoded(is...)
	if r.Intn(6) == 0 {
		prog[r.Intn(len(prog))] = r.Uint32()
	}
	return prog[:min(len(prog), api.MaxProg)]
}

func anyConf(r *rand.Rand) api.Conf {
	c := api.Conf{
		Mode: r.Intn(3), Width: 1 + r.Intn(2), Rob: 2 + r.Intn(7), Queue: 1 + r.Intn(4), Stores: 1 + r.Intn(4),
		Slots: 2 + r.Intn(5), Sets: []int{1, 2, 4}[r.Intn(3)], Ways: 1 + r.Intn(2), Tables: r.Intn(2) == 0,
	}
	for range r.Intn(6) {
		c.Lat = append(c.Lat, 1+r.Intn(8))
		c.Tape = append(c.Tape, uint32(4*r.Intn(20)))
	}
	if r.Intn(10) == 0 {
		c.Tape = append(c.Tape, r.Uint32())
	}
	return c
}

func anyMem(r *rand.Rand) string {
	m := make([]byte, []int{16, 64, 128, 128, 256}[r.Intn(5)])
	for k := range m {
		m[k] = byte(r.Intn(256))
	}
	return string(m)
}

// bent is a core with one part changed, as it comes: some of these may still be.
func bent(r *rand.Rand, c api.Core) api.Core {
	c.Rob, c.Bus, c.Stores, c.Fetched = append([]api.Entry(nil), c.Rob...), append([]api.Request(nil), c.Bus...), append([]api.Put(nil), c.Stores...), append([]api.Fetched(nil), c.Fetched...)
	addr := uint32(r.Intn(140))
	k := r.Intn(max(len(c.Rob), 1))
	if len(c.Rob) > 0 {
		switch e := &c.Rob[k]; r.Intn(10) {
		case 0:
			e.Known = !e.Known
		case 1:
			e.Filled = !e.Filled
		case 2:
			e.Addr = addr
		case 3:
			e.Is, e.Left = r.Intn(4), r.Intn(3)
		case 4:
			e.Halt, e.Is = r.Intn(8), api.EDone
		case 5:
			e.Guess, e.Next = addr, addr+uint32(r.Intn(2))
		}
	}
	switch r.Intn(8) {
	case 0:
		c.Bus = append([]api.Request{{Kind: r.Intn(6), Line: addr, Left: r.Intn(3) - 1, Data: "0123456789abcdef"[:r.Intn(17)]}}, c.Bus...)
	case 1:
		c.Bus = append(c.Bus, api.Request{Kind: 1 + r.Intn(4), Line: addr / 16 * 16, Left: 1 + r.Intn(3), Data: "0123456789abcdef"})
	case 2:
		c.Stores = append(c.Stores, api.Put{Addr: addr / 4 * 4, Data: "stor"})
	case 3:
		c.Fetch = addr
	case 4:
		c.Stop = !c.Stop
	case 5:
		c.Halt = r.Intn(3)
	case 6:
		c.Asked, c.Guessed = r.Intn(100)-20, r.Intn(100)-20
	}
	return c
}
