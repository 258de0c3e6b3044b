package word_test

import (
	"math"
	"math/big"
	"math/rand"
	"strings"
	"testing"

	"auspex/api"
	"auspex/word"
)

// odd are places and sizes at and beyond the edges.
var odd = []int{math.MinInt, math.MinInt32, -33, -32, -31, -2, -1, 0, 1, 2, 3, 4, 5, 6, 7, 8, 15, 16, 30, 31, 32, 33, 63, 64, 65, 1 << 32, 1<<32 + 1, math.MaxInt32, math.MaxInt - 31, math.MaxInt}

func someWords() []uint32 {
	r := rand.New(rand.NewSource(1))
	ws := []uint32{0, 1, 0x7f, 0x80, 0xff, 0x7fff, 0x8000, 0xffff, 0x12345678, 0x7fffffff, 0x80000000, 0xfffffffe, 0xffffffff}
	for range 20 {
		ws = append(ws, r.Uint32())
	}
	return ws
}

func bit(w uint32, at int) uint32 { return w >> uint(at) & 1 }

func fieldMayBe(at, size int) bool {
	if at < 0 || at > 31 {
		return false
	}
	return size >= 1 && size <= 32-at
}

// slowField takes a field bit by bit.
func slowField(w uint32, at, size int) uint32 {
	v := uint32(0)
	for k := 0; k < size; k++ {
		v |= bit(w, at+k) << uint(k)
	}
	return v
}

// P1.1: Field and Set of every field that may be, and of those that may not.
func TestFieldAndSet(t *testing.T) {
	places := append([]int{}, odd...)
	for k := range 34 {
		places = append(places, k)
	}
	ws := someWords()
	for _, w := range ws {
		for _, at := range places {
			for _, size := range places {
				if !fieldMayBe(at, size) {
					if got := word.Field(w, at, size); got != 0 {
						t.Fatalf("Field(%x,%d,%d) = %x, may not be", w, at, size, got)
					}
					if got := word.Set(w, at, size, ^w); got != w {
						t.Fatalf("Set(%x,%d,%d) = %x, may not be", w, at, size, got)
					}
					continue
				}
				if got, want := word.Field(w, at, size), slowField(w, at, size); got != want {
					t.Fatalf("Field(%x,%d,%d) = %x, not %x", w, at, size, got, want)
				}
			}
		}
	}
}

// P1.1, P1.4: what is set is the field, and the other bits stay.
func TestSetKeepsOthers(t *testing.T) {
	for _, w := range someWords() {
		for _, v := range someWords() {
			for at := 0; at < 32; at++ {
				for size := 1; size <= 32-at; size++ {
					got := word.Set(w, at, size, v)
					for k := 0; k < 32; k++ {
						want := bit(w, k)
						if k >= at && k < at+size {
							want = bit(v, k-at)
						}
						if bit(got, k) != want {
							t.Fatalf("Set(%x,%d,%d,%x) = %x: bit %d", w, at, size, v, got, k)
						}
					}
					if word.Field(got, at, size) != word.Field(v, 0, size) {
						t.Fatalf("Field of Set(%x,%d,%d,%x)", w, at, size, v)
					}
				}
			}
		}
	}
}

func TestExamples(t *testing.T) {
	if got := word.Field(0xf0, 4, 4); got != 0xf {
		t.Errorf("Field: %x", got)
	}
	if got := word.Set(0, 4, 4, 0x1f); got != 0xf0 {
		t.Errorf("Set: %x", got)
	}
	if got := word.Sext(0x80, 8); got != 0xffffff80 {
		t.Errorf("Sext: %x", got)
	}
	if got := word.Sext(0x7f, 8); got != 0x7f {
		t.Errorf("Sext: %x", got)
	}
	if s, e := word.Bytes(0x1234, 2); s != "\x34\x12" || e != api.OK {
		t.Errorf("Bytes: %q %d", s, e)
	}
}

// P1.2: Sext of every size, also of those that are none.
func TestSext(t *testing.T) {
	for _, w := range someWords() {
		for _, size := range append([]int{4, 5, 9, 12, 13, 20, 21, 29}, odd...) {
			got := word.Sext(w, size)
			if size < 1 || size > 32 {
				if got != w {
					t.Fatalf("Sext(%x,%d) = %x", w, size, got)
				}
				continue
			}
			for k := 0; k < 32; k++ {
				if bit(got, k) != bit(w, min(k, size-1)) {
					t.Fatalf("Sext(%x,%d) = %x: bit %d", w, size, got, k)
				}
			}
		}
	}
}

// P1.3: Bytes, by division.
func TestBytes(t *testing.T) {
	for _, w := range someWords() {
		for _, size := range odd {
			s, e := word.Bytes(w, size)
			if size < 0 || size > 4 {
				if s != "" || e != api.ErrArg {
					t.Fatalf("Bytes(%x,%d) = %q, %d", w, size, s, e)
				}
				continue
			}
			if e != api.OK || len(s) != size {
				t.Fatalf("Bytes(%x,%d) = %q, %d", w, size, s, e)
			}
			rest := uint64(w)
			for k := 0; k < size; k++ {
				if uint64(s[k]) != rest%256 {
					t.Fatalf("Bytes(%x,%d) = %q", w, size, s)
				}
				rest /= 256
			}
		}
	}
	if s, e := word.Bytes(0x12345678, 4); s != "\x78\x56\x34\x12" || e != api.OK {
		t.Errorf("four: %q %d", s, e)
	}
	if s, e := word.Bytes(0x12345678, 0); s != "" || e != api.OK {
		t.Errorf("none: %q %d", s, e)
	}
}

// P1.3: Join, by a number with the highest byte first; ErrLong of more than four bytes.
func TestJoin(t *testing.T) {
	r := rand.New(rand.NewSource(2))
	for n := 0; n <= 4; n++ {
		for range 200 {
			low, high := make([]byte, n), make([]byte, n)
			for k := range low {
				low[k] = byte(r.Intn(256))
				high[n-1-k] = low[k]
			}
			want := new(big.Int).SetBytes(high).Uint64()
			got, e := word.Join(string(low))
			if e != api.OK || uint64(got) != want {
				t.Fatalf("Join(%q) = %x, %d", low, got, e)
			}
		}
	}
	for _, n := range []int{5, 6, 8, 300} {
		if w, e := word.Join(strings.Repeat("\x01", n)); w != 0 || e != api.ErrLong {
			t.Errorf("Join of %d bytes: %x, %d", n, w, e)
		}
	}
	if w, e := word.Join("\x00\x00\x00\x00\x00"); w != 0 || e != api.ErrLong {
		t.Errorf("Join of five zeros: %x, %d", w, e)
	}
	if w, e := word.Join("\xff\xff\xff\xff"); w != 0xffffffff || e != api.OK {
		t.Errorf("Join of four: %x, %d", w, e)
	}
}

// P1.4: a word's four bytes make it, fewer its lowest ones.
func TestBytesJoined(t *testing.T) {
	for _, w := range someWords() {
		for size := 0; size <= 4; size++ {
			s, _ := word.Bytes(w, size)
			got, e := word.Join(s)
			if want := w & uint32(uint64(1)<<uint(8*size)-1); e != api.OK || got != want {
				t.Fatalf("Join(Bytes(%x,%d)) = %x", w, size, got)
			}
		}
	}
}
