package squash_test

import (
	"math"
	"math/rand"
	"slices"
	"testing"

	"auspex/api"
	"auspex/squash"
)

func jump(next, guess uint32, known bool) api.Entry {
	return api.Entry{Inst: api.Inst{Op: api.Beq}, Next: next, Guess: guess, Known: known}
}

func add() api.Entry {
	return api.Entry{Inst: api.Inst{Op: api.Add, Rd: 2}, Next: 4, Guess: 8, Known: true}
}

// P19.1: Wrong is the first jump that is known and goes elsewhere.
func TestWrong(t *testing.T) {
	for _, x := range []struct {
		rob  []api.Entry
		want int
	}{
		{nil, -1}, {[]api.Entry{add(), add()}, -1}, {[]api.Entry{jump(12, 8, true), add()}, 0}, {[]api.Entry{jump(12, 8, false)}, -1},
		{[]api.Entry{jump(8, 8, true)}, -1}, {[]api.Entry{add(), jump(8, 8, true), jump(12, 8, false), jump(12, 8, true), jump(16, 8, true)}, 3},
		{[]api.Entry{{Inst: api.Inst{Op: api.Lw}, Known: true, Next: 4}, {Inst: api.Inst{Op: api.Sw}, Known: true, Next: 4}}, -1},
		{[]api.Entry{add(), {Inst: api.Inst{Op: api.Jal}, Known: true, Next: 4}}, 1},
		{[]api.Entry{add(), {Inst: api.Inst{Op: api.Jalr}, Known: true, Guess: 4, Is: api.EWait, Halt: 7}}, 1},
	} {
		if got := squash.Wrong(x.rob); got != x.want {
			t.Errorf("Wrong(%+v) = %d", x.rob, got)
		}
	}
	for op := -1; op < 60; op++ {
		want := -1
		if op >= api.Jal && op <= api.Bgeu {
			want = 0
		}
		if got := squash.Wrong([]api.Entry{{Inst: api.Inst{Op: op}, Known: true, Next: 4}}); got != want {
			t.Errorf("op %d: %d", op, got)
		}
	}
}

// P19.1: Cut, of any i; the entries that are handed in stay.
func TestCut(t *testing.T) {
	rob := []api.Entry{add(), jump(12, 8, true), add(), jump(16, 20, false)}
	kept := slices.Clone(rob)
	for _, i := range []int{math.MinInt, -1, 0, 1, 2, 3, 4, 5, math.MaxInt} {
		want := slices.Clone(kept)
		if i >= 0 && i < 4 {
			want = want[:i+1]
			want[i].Guess = want[i].Next
		}
		got := squash.Cut(rob, i)
		if !slices.Equal(got, want) {
			t.Errorf("Cut(%d) = %+v", i, got)
		}
		_ = append(got, api.Entry{No: 99})
		if !slices.Equal(rob, kept) {
			t.Fatalf("Cut(%d) changes its argument", i)
		}
	}
	if len(squash.Cut(nil, 0)) != 0 {
		t.Error("Cut of none")
	}
	if got := squash.Cut([]api.Entry{jump(12, 8, true), add()}, 0); len(got) != 1 || got[0].Guess != 12 {
		t.Errorf("example: %+v", got)
	}
}

// ok are entries that may stand, each by itself.
func ok() []api.Entry {
	addi := api.Inst{Op: api.Addi, Rd: 1, Imm: 5}
	lw, sw, beq := api.Inst{Op: api.Lw, Rd: 1}, api.Inst{Op: api.Sw}, api.Inst{Op: api.Beq, Imm: 8}
	return []api.Entry{
		{Inst: addi}, {Inst: addi, Is: api.EGoes, Left: 1}, {Inst: addi, Is: api.EDone}, {Inst: addi, Is: api.EGoes, Left: math.MaxInt},
		{Inst: lw, Is: api.EBus, Known: true}, {Inst: lw, Is: api.EDone, Halt: api.HLoad}, {Inst: lw, Is: api.EDone, Halt: -7},
		{Inst: sw}, {Inst: sw, Known: true}, {Inst: sw, Is: api.EDone, Halt: 99},
		{Inst: beq, Is: api.EGoes, Left: 1, Halt: api.HJump}, {Inst: beq, Is: api.EDone, Halt: api.HJump}, {Inst: beq, Is: api.EGoes, Left: 3},
		{Is: api.EDone, Halt: api.HFetch}, {Is: api.EDone, Halt: api.HWord}, {Inst: api.Inst{Op: 77}, Is: api.EDone, Halt: api.HWord},
		{Inst: api.Inst{Op: api.Addi, Rd: 32}, Is: api.EDone, Halt: api.HFetch},
		{Inst: api.Inst{Op: api.Ecall}, Is: api.EDone, Halt: api.HCall}, {Inst: api.Inst{Op: api.Ebreak}},
		{Inst: addi, Is: api.EDone, Halt: api.HFetch},
	}
}

// bad are entries that may not stand, each for one reason.
func bad() []api.Entry {
	addi := api.Inst{Op: api.Addi, Rd: 1, Imm: 5}
	lw, sw, beq := api.Inst{Op: api.Lw, Rd: 1}, api.Inst{Op: api.Sw}, api.Inst{Op: api.Beq, Imm: 8}
	return []api.Entry{
		{Inst: addi, Is: -1}, {Inst: addi, Is: 4}, {Inst: addi, Is: math.MaxInt},
		{Inst: addi, Is: api.EGoes}, {Inst: addi, Is: api.EGoes, Left: -1},
		{Inst: addi, Left: 1}, {Inst: addi, Left: -1}, {Inst: addi, Is: api.EDone, Left: 1}, {Inst: lw, Is: api.EBus, Known: true, Left: 1},
		{Inst: lw, Is: api.EBus}, {Inst: sw, Is: api.EBus, Known: true}, {Inst: addi, Is: api.EBus, Known: true}, {Inst: beq, Is: api.EBus, Known: true},
		{Inst: addi, Halt: api.HLoad}, {Inst: lw, Halt: api.HLoad}, {Inst: lw, Is: api.EBus, Known: true, Halt: api.HLoad},
		{Inst: addi, Is: api.EGoes, Left: 1, Halt: api.HJump}, {Inst: beq, Is: api.EGoes, Left: 1, Halt: api.HLoad}, {Inst: beq, Halt: api.HJump},
		{Inst: lw, Is: api.EGoes, Left: 1, Known: true, Halt: api.HJump},
		{}, {Is: api.EDone}, {Is: api.EDone, Halt: api.HJump}, {Inst: api.Inst{Op: 77}, Is: api.EDone, Halt: 99},
		{Inst: api.Inst{Op: api.Addi, Rd: 32}}, {Inst: api.Inst{Op: api.Addi, Imm: 4000}}, {Inst: api.Inst{Op: api.Addi, Rs2: 1}},
		{Inst: api.Inst{Op: api.Beq, Imm: 1}}, {Halt: api.HFetch}, {Halt: api.HWord}, {Is: api.EGoes, Left: 1, Halt: api.HFetch},
	}
}

// P19.2: Right of each entry by itself, and among others.
func TestRight(t *testing.T) {
	first, last := add(), add()
	first.No, last.No = -3, 12
	for k, e := range ok() {
		e.No = 7
		if !squash.Right([]api.Entry{e}) || !squash.Right([]api.Entry{first, e, last}) {
			t.Errorf("%d: %+v may stand", k, e)
		}
	}
	for k, e := range bad() {
		e.No = 7
		if squash.Right([]api.Entry{e}) || squash.Right([]api.Entry{first, e, last}) {
			t.Errorf("%d: %+v may not stand", k, e)
		}
	}
}

// P19.2: numbers rise strictly, and there are at most 8.
func TestRightNumbers(t *testing.T) {
	if !squash.Right(nil) {
		t.Error("none may stand")
	}
	for _, x := range []struct {
		nos  []int
		want bool
	}{
		{[]int{1, 2}, true}, {[]int{2, 2}, false}, {[]int{2, 1}, false}, {[]int{-5, 0, 9}, true}, {[]int{1, 5, 5}, false}, {[]int{1, 5, 4}, false},
		{[]int{math.MinInt, math.MaxInt}, true}, {[]int{math.MaxInt, math.MinInt}, false}, {[]int{0, 0}, false},
		{[]int{1, 2, 3, 4, 5, 6, 7, 8}, true}, {[]int{1, 2, 3, 4, 5, 6, 7, 8, 9}, false},
	} {
		var rob []api.Entry
		for _, no := range x.nos {
			e := add()
			e.No = no
			rob = append(rob, e)
		}
		if got := squash.Right(rob); got != x.want {
			t.Errorf("numbers %v: %v", x.nos, got)
		}
	}
}

// P19.3: Enter, of places with a word of each sort and without.
func TestEnter(t *testing.T) {
	prog := []uint32{0x00500093, 0x00000073, 0x00100073, 0, 0x0000000f, 0x00208463}
	for _, x := range []struct {
		pc   uint32
		want api.Entry
	}{
		{0, api.Entry{Inst: api.Inst{Op: api.Addi, Rd: 1, Imm: 5}}},
		{4, api.Entry{Inst: api.Inst{Op: api.Ecall}, Is: api.EDone, Halt: api.HCall}},
		{8, api.Entry{Inst: api.Inst{Op: api.Ebreak}, Is: api.EDone, Halt: api.HBreak}},
		{12, api.Entry{Is: api.EDone, Halt: api.HWord}},
		{16, api.Entry{Inst: api.Inst{Op: api.Fence}}},
		{20, api.Entry{Inst: api.Inst{Op: api.Beq, Rs1: 1, Rs2: 2, Imm: 8}}},
		{24, api.Entry{Is: api.EDone, Halt: api.HFetch}},
		{2, api.Entry{Is: api.EDone, Halt: api.HFetch}},
		{0xfffffffc, api.Entry{Is: api.EDone, Halt: api.HFetch}},
	} {
		for _, no := range []int{math.MinInt, -1, 0, 5, math.MaxInt} {
			x.want.No, x.want.PC, x.want.Guess = no, x.pc, 44
			rob := make([]api.Entry, 2, 5)
			rob[0], rob[1] = add(), jump(1, 2, true)
			kept := slices.Clone(rob)
			got := squash.Enter(rob, no, api.Fetched{PC: x.pc, Guess: 44}, prog)
			if !slices.Equal(got, append(kept, x.want)) {
				t.Errorf("Enter at %d: %+v", x.pc, got)
			}
			if !slices.Equal(rob, kept[:2]) || rob[:5][2] != (api.Entry{}) {
				t.Error("Enter changes its argument")
			}
		}
	}
	if got := squash.Enter(nil, 1, api.Fetched{}, nil); !slices.Equal(got, []api.Entry{{No: 1, Is: api.EDone, Halt: api.HFetch}}) {
		t.Errorf("nothing: %+v", got)
	}
	if got := squash.Enter(make([]api.Entry, 20), 1, api.Fetched{}, prog); len(got) != 21 || got[20].Inst.Op != api.Addi {
		t.Errorf("behind many: %d", len(got))
	}
}

// P19.4: behind Cut of Wrong none is wrong up to there; what may stand still may, and with one more.
func TestWhatFollows(t *testing.T) {
	r := rand.New(rand.NewSource(25))
	prog := []uint32{0x00500093, 0x00000073, 0x00100073, 0, 0x0000000f, 0x00208463, 0x0000006f}
	cut := 0
	for range 3000 {
		var rob []api.Entry
		no := r.Intn(10) - 5
		for range r.Intn(9) {
			e := ok()[r.Intn(len(ok()))]
			e.Next, e.Guess = uint32(r.Intn(3)*4), uint32(r.Intn(3)*4)
			if e.Inst.Op == api.Beq {
				e.Known = r.Intn(2) == 0
			}
			no += 1 + r.Intn(3)
			e.No = no
			rob = append(rob, e)
		}
		if !squash.Right(rob) {
			t.Fatalf("it may stand: %+v", rob)
		}
		i := squash.Wrong(rob)
		behind := squash.Cut(rob, i)
		if i >= 0 {
			cut++
			if len(behind) != i+1 || squash.Wrong(behind) != -1 {
				t.Fatalf("Cut of Wrong %d: %+v", i, behind)
			}
		}
		if !squash.Right(behind) {
			t.Fatalf("it may stand no more: %+v", behind)
		}
		more := squash.Enter(behind, no+1, api.Fetched{PC: uint32(r.Intn(9) * 4)}, prog)
		if squash.Right(more) != (len(behind) < 8) {
			t.Fatalf("with one more: %+v", more)
		}
	}
	if cut < 100 {
		t.Errorf("only %d cut", cut)
	}
}
