package divide_test

import (
	"math"
	"math/big"
	"math/rand"
	"testing"

	"auspex/api"
	"auspex/divide"
)

var ops = []int{api.Div, api.Divu, api.Rem, api.Remu}

func someWords() []uint32 {
	r := rand.New(rand.NewSource(6))
	ws := []uint32{0, 1, 2, 3, 4, 7, 8, 99, 100, 0x7fff, 0x8000, 0x7ffffffe, 0x7fffffff, 0x80000000, 0x80000001, 0xfffffff9, 0xfffffffd, 0xfffffffe, 0xffffffff}
	for range 40 {
		ws = append(ws, r.Uint32()>>uint(r.Intn(32)), -(r.Uint32() >> uint(r.Intn(32))))
	}
	return ws
}

func isSigned(op int) bool { return op == api.Div || op == api.Rem }

func number(op int, w uint32) *big.Int {
	if isSigned(op) {
		return big.NewInt(int64(int32(w)))
	}
	return big.NewInt(int64(w))
}

// wanted divides numbers as large as they come, towards 0.
func wanted(op int, a, b uint32) uint32 {
	rest := op == api.Rem || op == api.Remu
	if b == 0 {
		if rest {
			return a
		}
		return math.MaxUint32
	}
	q, r := new(big.Int).QuoRem(number(op, a), number(op, b), new(big.Int))
	if rest {
		q = r
	}
	return uint32(q.Int64())
}

// P4.1: Do of every op.
func TestDo(t *testing.T) {
	ws := someWords()
	for _, op := range ops {
		for _, a := range ws {
			for _, b := range ws {
				if got, want := divide.Do(op, a, b), wanted(op, a, b); got != want {
					t.Fatalf("Do(%d,%x,%x) = %x, not %x", op, a, b, got, want)
				}
			}
		}
	}
}

// P4.1: divisions by 0, and the one whose quotient has no room.
func TestEdges(t *testing.T) {
	for _, x := range []struct {
		op         int
		a, b, want uint32
	}{
		{api.Div, 0xfffffff9, 2, 0xfffffffd}, {api.Rem, 0xfffffff9, 2, 0xffffffff},
		{api.Div, 7, 0xfffffffe, 0xfffffffd}, {api.Rem, 7, 0xfffffffe, 1},
		{api.Div, 5, 0, 0xffffffff}, {api.Divu, 5, 0, 0xffffffff}, {api.Rem, 5, 0, 5}, {api.Remu, 5, 0, 5},
		{api.Div, 0x80000000, 0, 0xffffffff}, {api.Rem, 0x80000000, 0, 0x80000000},
		{api.Div, 0, 0, 0xffffffff}, {api.Rem, 0, 0, 0},
		{api.Div, 0x80000000, 0xffffffff, 0x80000000}, {api.Rem, 0x80000000, 0xffffffff, 0},
		{api.Divu, 0x80000000, 0xffffffff, 0}, {api.Remu, 0x80000000, 0xffffffff, 0x80000000},
		{api.Div, 0x80000000, 1, 0x80000000}, {api.Div, 1, 0x80000000, 0}, {api.Rem, 1, 0x80000000, 1},
		{api.Div, 0x80000000, 0x80000000, 1}, {api.Rem, 0x80000000, 0x80000000, 0},
		{api.Divu, 100, 3, 33}, {api.Remu, 100, 3, 1},
	} {
		if got := divide.Do(x.op, x.a, x.b); got != x.want {
			t.Errorf("Do(%d,%x,%x) = %x, not %x", x.op, x.a, x.b, got, x.want)
		}
	}
}

// P4.1, P4.2: 0 of any other op, also by 0.
func TestOtherOps(t *testing.T) {
	others := []int{math.MinInt, -1, 0, 1 << 32, 1<<32 + api.Div, math.MaxInt}
	for op := 1; op < 60; op++ {
		if op < api.Div || op > api.Remu {
			others = append(others, op)
		}
	}
	for _, op := range others {
		for _, b := range []uint32{0, 1, 3} {
			if divide.Do(op, 7, b) != 0 || divide.Took(op, 7, b) != 0 {
				t.Errorf("op %d by %d: %x, %d", op, b, divide.Do(op, 7, b), divide.Took(op, 7, b))
			}
		}
	}
}

// P4.2: Bits of each power of 2, and of its neighbours.
func TestBits(t *testing.T) {
	if divide.Bits(0) != 0 || divide.Bits(math.MaxUint32) != 32 {
		t.Error("0 or all")
	}
	for k := 0; k < 32; k++ {
		p := uint32(1) << uint(k)
		if divide.Bits(p) != k+1 || divide.Bits(p-1) != k || divide.Bits(p|p>>1) != k+1 {
			t.Errorf("Bits around %x", p)
		}
	}
}

func bitsOf(n *big.Int) int { return new(big.Int).Abs(n).BitLen() }

// P4.2: Took of sizes.
func TestTook(t *testing.T) {
	ws := someWords()
	for _, op := range ops {
		for _, a := range ws {
			for _, b := range ws {
				x, y := number(op, a), number(op, b)
				want := 2
				if b != 0 && x.CmpAbs(y) >= 0 {
					want = 3 + bitsOf(x) - bitsOf(y)
				}
				if got := divide.Took(op, a, b); got != want {
					t.Fatalf("Took(%d,%x,%x) = %d, not %d", op, a, b, got, want)
				}
			}
		}
	}
	for _, x := range []struct {
		op   int
		a, b uint32
		want int
	}{
		{api.Divu, 100, 3, 8}, {api.Divu, 3, 100, 2}, {api.Divu, 0xffffffff, 1, 34}, {api.Remu, 0xffffffff, 1, 34},
		{api.Div, 0x80000000, 1, 34}, {api.Div, 0x80000000, 0xffffffff, 34}, {api.Div, 0xffffffff, 1, 3},
		{api.Rem, 7, 0, 2}, {api.Div, 5, 5, 3}, {api.Div, 0xfffffffb, 5, 3}, {api.Div, 0, 0, 2}, {api.Div, 0, 1, 2},
	} {
		if got := divide.Took(x.op, x.a, x.b); got != x.want {
			t.Errorf("Took(%d,%x,%x) = %d, not %d", x.op, x.a, x.b, got, x.want)
		}
	}
}

// P4.3: quotient times divisor, and what is left, is the number; what is left is below the divisor; 2 to 34 cycles.
func TestWhatFollows(t *testing.T) {
	ws := someWords()
	pairs := [][2]int{{api.Div, api.Rem}, {api.Divu, api.Remu}}
	for _, p := range pairs {
		for _, a := range ws {
			for _, b := range ws {
				for _, op := range p {
					if n := divide.Took(op, a, b); n < 2 || n > 34 {
						t.Errorf("Took(%d,%x,%x) = %d", op, a, b, n)
					}
				}
				if b == 0 {
					continue
				}
				q, r := divide.Do(p[0], a, b), divide.Do(p[1], a, b)
				if q*b+r != a {
					t.Errorf("%x = %x * %x + %x", a, q, b, r)
				}
				if number(p[1], r).CmpAbs(number(p[1], b)) >= 0 {
					t.Errorf("left %x of %x by %x", r, a, b)
				}
				if r != 0 && isSigned(p[1]) && r>>31 != a>>31 {
					t.Errorf("sign of what is left: %x of %x by %x", r, a, b)
				}
			}
		}
	}
}
