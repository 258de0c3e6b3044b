package mem_test

import (
	"math"
	"math/rand"
	"slices"
	"strings"
	"testing"

	"auspex/api"
	"auspex/mem"
)

func rising(n int) string {
	b := make([]byte, n)
	for k := range b {
		b[k] = byte(3*k + 1)
	}
	return string(b)
}

// mayBe is the document's sentence, without numbers that go round.
func mayBe(size int, addr uint32, many int) bool {
	return (many == 1 || many == 2 || many == 4) && uint64(addr)%uint64(many) == 0 && size >= 0 && uint64(addr)+uint64(many) <= uint64(size)
}

// P5.1: Right, at the edges of a memory and of numbers.
func TestRight(t *testing.T) {
	sizes := []int{math.MinInt, -16, -1, 0, 1, 2, 3, 4, 5, 15, 16, 17, 18, 256, 1 << 31, 1<<32 - 2, 1 << 32, 1<<32 + 8, math.MaxInt}
	addrs := []uint32{0, 1, 2, 3, 4, 12, 13, 14, 15, 16, 17, 252, 254, 255, 256, 1 << 31, 0xfffffffc, 0xfffffffd, 0xfffffffe, 0xffffffff}
	manys := []int{math.MinInt, -4, -1, 0, 1, 2, 3, 4, 5, 8, 16, 1 << 32, 1<<32 + 1, 1<<32 + 4, math.MaxInt}
	for _, size := range sizes {
		for _, addr := range addrs {
			for _, many := range manys {
				if got := mem.Right(size, addr, many); got != mayBe(size, addr, many) {
					t.Errorf("Right(%d,%d,%d) = %v", size, addr, many, got)
				}
			}
		}
	}
	if !mem.Right(16, 14, 2) || mem.Right(16, 14, 4) || mem.Right(16, 16, 1) {
		t.Error("examples")
	}
}

// P5.1: Read of memories that may be and of others.
func TestRead(t *testing.T) {
	for _, size := range []int{0, 1, 3, 4, 7, 16, 20, 32} {
		m := rising(size)
		for addr := uint32(0); addr < 40; addr++ {
			for many := -2; many < 10; many++ {
				s, e := mem.Read(m, addr, many)
				if !mayBe(size, addr, many) {
					if s != "" || e != api.ErrArg {
						t.Fatalf("Read(%d,%d,%d) = %q, %d", size, addr, many, s, e)
					}
					continue
				}
				if want := rising(64)[addr : int(addr)+many]; s != want || e != api.OK {
					t.Fatalf("Read(%d,%d,%d) = %q, %d", size, addr, many, s, e)
				}
			}
		}
	}
	for _, addr := range []uint32{1 << 31, 0xfffffffc, 0xffffffff} {
		for _, many := range []int{1, 4, math.MinInt, math.MaxInt} {
			if s, e := mem.Read(rising(16), addr, many); s != "" || e != api.ErrArg {
				t.Errorf("Read at %x of %d: %q, %d", addr, many, s, e)
			}
		}
	}
}

// P5.1, P5.5: what is written is read, other bytes stay.
func TestWrite(t *testing.T) {
	for _, size := range []int{0, 1, 3, 4, 7, 16, 20, 32} {
		m := rising(size)
		for addr := uint32(0); addr < 40; addr++ {
			for many := 0; many < 10; many++ {
				bytes := strings.Repeat("\xee\xdd", 5)[:many]
				got, e := mem.Write(m, addr, bytes)
				if !mayBe(size, addr, many) {
					if got != "" || e != api.ErrArg {
						t.Fatalf("Write(%d,%d,%q) = %q, %d", size, addr, bytes, got, e)
					}
					continue
				}
				if e != api.OK || len(got) != size {
					t.Fatalf("Write(%d,%d,%q) = %q, %d", size, addr, bytes, got, e)
				}
				for k := 0; k < size; k++ {
					want := m[k]
					if k >= int(addr) && k < int(addr)+many {
						want = bytes[k-int(addr)]
					}
					if got[k] != want {
						t.Fatalf("Write(%d,%d,%q) = %q: byte %d", size, addr, bytes, got, k)
					}
				}
				if back, e := mem.Read(got, addr, many); back != bytes || e != api.OK {
					t.Fatalf("Read of Write(%d,%d,%q): %q", size, addr, bytes, back)
				}
			}
		}
	}
	if got, e := mem.Write(rising(16), 0xfffffffe, "ab"); got != "" || e != api.ErrArg {
		t.Errorf("beyond: %q, %d", got, e)
	}
}

// P5.2: Load, with the sign and without, of just as many bytes as the load has.
func TestLoad(t *testing.T) {
	for _, x := range []struct {
		op    int
		bytes string
		want  uint32
	}{
		{api.Lb, "\x80", 0xffffff80}, {api.Lb, "\x7f", 0x7f}, {api.Lb, "\xff", 0xffffffff}, {api.Lb, "\x00", 0},
		{api.Lbu, "\x80", 0x80}, {api.Lbu, "\xff", 0xff},
		{api.Lh, "\x34\x92", 0xffff9234}, {api.Lh, "\xff\x7f", 0x7fff}, {api.Lh, "\x80\x00", 0x80},
		{api.Lhu, "\x80\xff", 0xff80}, {api.Lhu, "\x00\x80", 0x8000},
		{api.Lw, "\x01\x02\x03\x84", 0x84030201}, {api.Lw, "\xff\xff\xff\x7f", 0x7fffffff},
	} {
		if got := mem.Load(x.op, x.bytes); got != x.want {
			t.Errorf("Load(%d,%q) = %x, not %x", x.op, x.bytes, got, x.want)
		}
	}
	sizes := map[int]int{api.Lb: 1, api.Lbu: 1, api.Lh: 2, api.Lhu: 2, api.Lw: 4}
	for _, op := range []int{math.MinInt, -1, 1 << 32, 1<<32 + api.Lb, math.MaxInt} {
		sizes[op] = -1
	}
	for op := 0; op < 60; op++ {
		for n := 0; n < 9; n++ {
			got := mem.Load(op, strings.Repeat("\x91", n))
			if size, ok := sizes[op]; (!ok || size != n) && got != 0 {
				t.Errorf("Load(%d, %d bytes) = %x", op, n, got)
			} else if ok && size == n && got == 0 {
				t.Errorf("Load(%d, %d bytes) = 0", op, n)
			}
		}
	}
	for op := range sizes {
		if op < 0 || op > 60 {
			if got := mem.Load(op, "\x91"); got != 0 {
				t.Errorf("Load(%d) = %x", op, got)
			}
		}
	}
	r := rand.New(rand.NewSource(7))
	for range 200 {
		w := r.Uint32()
		s := string([]byte{byte(w), byte(w >> 8), byte(w >> 16), byte(w >> 24)})
		if mem.Load(api.Lw, s) != w || mem.Load(api.Lh, s[:2]) != uint32(int16(w)) || mem.Load(api.Lhu, s[:2]) != uint32(uint16(w)) ||
			mem.Load(api.Lb, s[:1]) != uint32(int8(w)) || mem.Load(api.Lbu, s[:1]) != uint32(uint8(w)) {
			t.Errorf("loads of %x", w)
		}
	}
}

// P5.3, P5.5: Clean of each length around the powers of 2; what is cleaned stays.
func TestClean(t *testing.T) {
	for n := 0; n < 600; n++ {
		m := rising(n)
		want := 16
		for want < n && want < 256 {
			want += want
		}
		got := mem.Clean(m)
		if len(got) != want {
			t.Fatalf("Clean of %d bytes has %d", n, len(got))
		}
		for k := 0; k < want; k++ {
			b := byte(0)
			if k < n {
				b = m[k]
			}
			if got[k] != b {
				t.Fatalf("Clean of %d bytes: byte %d is %x", n, k, got[k])
			}
		}
		if mem.Clean(got) != got {
			t.Fatalf("Clean twice of %d bytes", n)
		}
	}
}

// P5.4: Fetch of places with a word and without.
func TestFetch(t *testing.T) {
	for n := 0; n < 5; n++ {
		prog := []uint32{11, 22, 33, 44}[:n:n]
		for pc := uint32(0); pc < 30; pc++ {
			w, ok := mem.Fetch(prog, pc)
			if pc%4 == 0 && pc/4 < uint32(n) {
				if w != prog[pc/4] || !ok {
					t.Errorf("Fetch(%d words, %d) = %d, %v", n, pc, w, ok)
				}
			} else if w != 0 || ok {
				t.Errorf("Fetch(%d words, %d) = %d, %v", n, pc, w, ok)
			}
		}
	}
	for _, pc := range []uint32{0x80000000, 0xfffffffc, 0xfffffffe, 0xffffffff} {
		if w, ok := mem.Fetch([]uint32{1, 2}, pc); w != 0 || ok {
			t.Errorf("Fetch at %x", pc)
		}
	}
	if _, ok := mem.Fetch(nil, 0); ok {
		t.Error("Fetch of nothing")
	}
	long := make([]uint32, 200)
	long[199] = 9
	if w, ok := mem.Fetch(long, 796); w != 9 || !ok {
		t.Error("Fetch of a program with more words than a core takes")
	}
}

// R4: a program that is handed in stays.
func TestFetchKeeps(t *testing.T) {
	prog := []uint32{1, 2, 3}
	mem.Fetch(prog, 4)
	if !slices.Equal(prog, []uint32{1, 2, 3}) {
		t.Error(prog)
	}
}
