package alu_test

import (
	"math"
	"math/big"
	"math/rand"
	"slices"
	"testing"

	"auspex/alu"
	"auspex/api"
)

func someWords() []uint32 {
	r := rand.New(rand.NewSource(4))
	ws := []uint32{0, 1, 2, 4, 5, 7, 8, 30, 31, 32, 33, 63, 64, 0x7f, 0x80, 0xffff, 0x10000, 0x12345678, 0x7ffffffe, 0x7fffffff, 0x80000000, 0x80000001, 0xfffffff0, 0xfffffffc, 0xfffffffe, 0xffffffff}
	for range 20 {
		ws = append(ws, r.Uint32(), r.Uint32()>>uint(r.Intn(32)))
	}
	return ws
}

func noOps() []int {
	return []int{math.MinInt, -1, 0, 49, 50, 1 << 32, 1<<32 + api.Add, 1<<32 + api.Mul, 1<<32 + api.Beq, math.MaxInt}
}

func signed(w uint32) *big.Int {
	n := big.NewInt(int64(w))
	if w>>31 == 1 {
		n.Sub(n, big.NewInt(1<<32))
	}
	return n
}

func plain(w uint32) *big.Int { return big.NewInt(int64(w)) }

// low is a whole number's lowest 32 bits, its sign continued.
func low(n *big.Int) uint32 {
	return uint32(new(big.Int).Mod(n, big.NewInt(1<<32)).Uint64())
}

func high(n *big.Int) uint32 {
	m := new(big.Int).Mod(n, new(big.Int).Lsh(big.NewInt(1), 64))
	return uint32(m.Rsh(m, 32).Uint64())
}

func truth(is bool) uint32 {
	if is {
		return 1
	}
	return 0
}

func eachBit(a, b uint32, f func(x, y uint32) bool) uint32 {
	out := uint32(0)
	for k := 0; k < 32; k++ {
		out |= truth(f(a>>uint(k)&1, b>>uint(k)&1)) << uint(k)
	}
	return out
}

// power is 2 to the lowest five bits of b.
func power(b uint32) *big.Int { return big.NewInt(1 << (b % 32)) }

func floor(a, b *big.Int) *big.Int {
	q, m := new(big.Int).DivMod(a, b, new(big.Int))
	_ = m // b is above 0: what is left is not below 0, so q is downwards
	return q
}

// wanted is what Do must answer, by numbers as large as they come; false: the op is none of its.
func wanted(op int, a, b uint32) (uint32, bool) {
	switch op {
	case api.Add, api.Addi:
		return low(new(big.Int).Add(plain(a), plain(b))), true
	case api.Sub:
		return low(new(big.Int).Sub(plain(a), plain(b))), true
	case api.And, api.Andi:
		return eachBit(a, b, func(x, y uint32) bool { return x+y == 2 }), true
	case api.Or, api.Ori:
		return eachBit(a, b, func(x, y uint32) bool { return x+y > 0 }), true
	case api.Xor, api.Xori:
		return eachBit(a, b, func(x, y uint32) bool { return x+y == 1 }), true
	case api.Sll, api.Slli:
		return low(new(big.Int).Mul(plain(a), power(b))), true
	case api.Srl, api.Srli:
		return low(floor(plain(a), power(b))), true
	case api.Sra, api.Srai:
		return low(floor(signed(a), power(b))), true
	case api.Slt, api.Slti:
		return truth(signed(a).Cmp(signed(b)) < 0), true
	case api.Sltu, api.Sltiu:
		return truth(plain(a).Cmp(plain(b)) < 0), true
	case api.Lui:
		return b, true
	}
	return 0, false
}

// P3.1: Do of every op, and of those that are none.
func TestDo(t *testing.T) {
	count := 0
	ws := someWords()
	for op := -3; op < 60; op++ {
		_, known := wanted(op, 0, 0)
		if known {
			count++
		}
		for _, a := range ws {
			for _, b := range ws {
				want, _ := wanted(op, a, b)
				if got := alu.Do(op, a, b); got != want {
					t.Fatalf("Do(%d,%x,%x) = %x, not %x", op, a, b, got, want)
				}
			}
		}
	}
	if count != 20 {
		t.Errorf("%d ops", count)
	}
	for _, op := range noOps() {
		if got := alu.Do(op, 3, 5); got != 0 {
			t.Errorf("Do(%d) = %x", op, got)
		}
	}
}

// P3.2: Mul of every op, and of those that are none.
func TestMul(t *testing.T) {
	ws := someWords()
	times := func(a, b *big.Int) *big.Int { return new(big.Int).Mul(a, b) }
	for op := -3; op < 60; op++ {
		for _, a := range ws {
			for _, b := range ws {
				want := uint32(0)
				switch op {
				case api.Mul:
					want = low(times(plain(a), plain(b)))
				case api.Mulh:
					want = high(times(signed(a), signed(b)))
				case api.Mulhsu:
					want = high(times(signed(a), plain(b)))
				case api.Mulhu:
					want = high(times(plain(a), plain(b)))
				}
				if got := alu.Mul(op, a, b); got != want {
					t.Fatalf("Mul(%d,%x,%x) = %x, not %x", op, a, b, got, want)
				}
			}
		}
	}
	for _, op := range noOps() {
		if got := alu.Mul(op, 3, 5); got != 0 {
			t.Errorf("Mul(%d) = %x", op, got)
		}
	}
}

func taken(op int, a, b uint32) bool {
	s, u := signed(a).Cmp(signed(b)), plain(a).Cmp(plain(b))
	switch op {
	case api.Beq:
		return u == 0
	case api.Bne:
		return u != 0
	case api.Blt:
		return s < 0
	case api.Bge:
		return s >= 0
	case api.Bltu:
		return u < 0
	case api.Bgeu:
		return u >= 0
	}
	return false
}

// P3.3: Taken of every op, and of those that are none.
func TestTaken(t *testing.T) {
	ws := someWords()
	ops := noOps()
	for op := 0; op < 60; op++ {
		ops = append(ops, op)
	}
	for _, op := range ops {
		for _, a := range ws {
			for _, b := range ws {
				if got := alu.Taken(op, a, b); got != taken(op, a, b) {
					t.Fatalf("Taken(%d,%x,%x) = %v", op, a, b, got)
				}
			}
		}
	}
}

// P3.4: Next of Jal, Jalr, branches and all others, places going round.
func TestNext(t *testing.T) {
	ws := someWords()
	ops := noOps()
	for op := 0; op < 60; op++ {
		ops = append(ops, op)
	}
	r := rand.New(rand.NewSource(5))
	for _, op := range ops {
		for _, pc := range ws {
			for range 60 {
				a, b, imm := ws[r.Intn(len(ws))], ws[r.Intn(len(ws))], ws[r.Intn(len(ws))]
				if r.Intn(4) == 0 {
					b = a
				}
				want := low(big.NewInt(int64(pc) + 4))
				switch {
				case op == api.Jal, taken(op, a, b):
					want = low(big.NewInt(int64(pc) + int64(imm)))
				case op == api.Jalr:
					want = low(big.NewInt(int64(a) + int64(imm)))
					want -= want % 2
				}
				i := api.Inst{Op: op, Rd: 1, Rs1: 2, Rs2: 3, Imm: imm}
				if got := alu.Next(i, pc, a, b); got != want {
					t.Fatalf("Next(%+v,%x,%x,%x) = %x, not %x", i, pc, a, b, got, want)
				}
			}
		}
	}
}

func TestExamples(t *testing.T) {
	if got := alu.Do(api.Sra, 0xfffffff0, 2); got != 0xfffffffc {
		t.Errorf("Sra: %x", got)
	}
	if got := alu.Mul(api.Mulh, 0xffffffff, 0xffffffff); got != 0 {
		t.Errorf("Mulh: %x", got)
	}
	if got := alu.Mul(api.Mulhu, 0xffffffff, 0xffffffff); got != 0xfffffffe {
		t.Errorf("Mulhu: %x", got)
	}
	if got := alu.Next(api.Inst{Op: api.Beq, Imm: 8}, 4, 1, 1); got != 12 {
		t.Errorf("Next: %d", got)
	}
	if got := alu.Next(api.Inst{Op: api.Jalr, Imm: 2}, 100, 5, 0); got != 6 {
		t.Errorf("Jalr: %d", got)
	}
}

// P3.5: what follows of the others.
func TestWhatFollows(t *testing.T) {
	ws := someWords()
	for _, a := range ws {
		for _, op := range []int{api.Sll, api.Slli, api.Srl, api.Srli, api.Sra, api.Srai} {
			if alu.Do(op, a, 0) != a || alu.Do(op, a, 32) != a {
				t.Errorf("shift %d of %x by 0", op, a)
			}
		}
		for _, b := range ws {
			if alu.Do(api.Sub, alu.Do(api.Add, a, b), b) != a || alu.Do(api.Add, alu.Do(api.Sub, a, b), b) != a {
				t.Errorf("Add and Sub of %x, %x", a, b)
			}
			for _, op := range []int{api.Slt, api.Sltu} {
				below := []uint32{alu.Do(op, a, b), alu.Do(op, b, a)}
				slices.Sort(below)
				if a == b && (below[0] != 0 || below[1] != 0) || a != b && (below[0] != 0 || below[1] != 1) {
					t.Errorf("op %d of %x, %x", op, a, b)
				}
			}
			product := uint64(alu.Mul(api.Mulhu, a, b))<<32 | uint64(alu.Mul(api.Mul, a, b))
			if product != uint64(a)*uint64(b) {
				t.Errorf("product of %x, %x", a, b)
			}
		}
	}
}
