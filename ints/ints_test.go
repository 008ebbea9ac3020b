package ints_test

import (
	"bytes"
	"math"
	"math/big"
	"testing"

	"mothball/ints"
)

// edges are whole numbers at and beside the ends that the chapter names.
func edges() []int {
	ns := []int{math.MinInt, math.MinInt + 1, math.MinInt + 2, math.MaxInt - 1, math.MaxInt}
	for n := -70; n <= 70; n++ {
		ns = append(ns, n)
	}
	for bit := 7; bit < 63; bit++ {
		p := 1 << bit
		ns = append(ns, p-1, p, p+1, -p-1, -p, -p+1)
	}
	return append(ns, 0x0123456789abcdef, -0x0123456789abcdef, 0x5555555555555555, -0x5555555555555556)
}

// clamp is how many octets or bits are meant, if so many are asked.
func clamp(n, most int) int {
	if n < 0 {
		return 0
	}
	if n > most {
		return most
	}
	return n
}

// bitOf is a bit of a number, in two's complement, worked out without shifts of the number.
func bitOf(n, bit int) uint {
	b := new(big.Int).And(big.NewInt(int64(n)), new(big.Int).SetUint64(math.MaxUint64))
	return b.Bit(bit)
}

// ofBits is the number whose bits are those that are told.
func ofBits(bit func(i int) uint) int {
	sum := new(big.Int)
	for i := 0; i < 63; i++ {
		if bit(i) == 1 {
			sum.Add(sum, new(big.Int).Lsh(big.NewInt(1), uint(i)))
		}
	}
	if bit(63) == 1 {
		sum.Sub(sum, new(big.Int).Lsh(big.NewInt(1), 63))
	}
	return int(sum.Int64())
}

func TestLay(t *testing.T) {
	for _, c := range []struct {
		n, size int
		want    []byte
	}{
		{258, 4, []byte{2, 1, 0, 0}},
		{0, 3, []byte{0, 0, 0}},
		{258, 1, []byte{2}},
		{256, 1, []byte{0}},
		{-1, 2, []byte{255, 255}},
		{-2, 8, []byte{254, 255, 255, 255, 255, 255, 255, 255}},
		{0x0102030405060708, 8, []byte{8, 7, 6, 5, 4, 3, 2, 1}},
		{0x0102030405060708, 5, []byte{8, 7, 6, 5, 4}},
		{math.MinInt, 8, []byte{0, 0, 0, 0, 0, 0, 0, 128}},
		{math.MinInt, 7, []byte{0, 0, 0, 0, 0, 0, 0}},
		{math.MaxInt, 8, []byte{255, 255, 255, 255, 255, 255, 255, 127}},
		{5, 0, nil},
		{5, -1, nil},
		{5, math.MinInt, nil},
		{5, 9, []byte{5, 0, 0, 0, 0, 0, 0, 0}},
		{-5, math.MaxInt, []byte{251, 255, 255, 255, 255, 255, 255, 255}},
	} {
		if b := ints.Lay(c.n, c.size); !bytes.Equal(b, c.want) {
			t.Errorf("P1.1: Lay(%d, %d): %v, not %v", c.n, c.size, b, c.want)
		}
	}
}

func TestLayIsNewMemory(t *testing.T) {
	first := ints.Lay(258, 8)
	second := ints.Lay(258, 8)
	for i := range first {
		first[i] = 99
	}
	want := []byte{2, 1, 0, 0, 0, 0, 0, 0}
	if third := ints.Lay(258, 8); !bytes.Equal(second, want) || !bytes.Equal(third, want) {
		t.Errorf("P1.1: Lay: %v and %v behind a change of an earlier answer", second, third)
	}
}

func TestGet(t *testing.T) {
	for _, c := range []struct {
		b    []byte
		want int
	}{
		{nil, 0},
		{[]byte{}, 0},
		{[]byte{255}, 255},
		{[]byte{2, 1, 0, 0}, 258},
		{[]byte{0, 0, 1}, 65536},
		{[]byte{255, 255, 255, 255}, 1<<32 - 1},
		{[]byte{8, 7, 6, 5, 4, 3, 2, 1}, 0x0102030405060708},
		{[]byte{0, 0, 0, 0, 0, 0, 0, 128}, math.MinInt},
		{[]byte{255, 255, 255, 255, 255, 255, 255, 127}, math.MaxInt},
		{[]byte{255, 255, 255, 255, 255, 255, 255, 255}, -1},
		{[]byte{1, 0, 0, 0, 0, 0, 0, 0, 7}, 1},
		{[]byte{0, 0, 0, 0, 0, 0, 0, 1, 255, 255, 255, 255, 255, 255, 255, 255, 255}, 1 << 56},
	} {
		if n := ints.Get(c.b...); n != c.want {
			t.Errorf("P1.1: Get(%v): %d, not %d", c.b, n, c.want)
		}
	}
	if n := ints.Get(make([]byte, 100000)...); n != 0 {
		t.Errorf("P1.1: Get of many noughts: %d", n)
	}
}

func TestGetLeavesItsOctets(t *testing.T) {
	all := []byte{1, 2, 3, 4, 5, 6, 7, 8, 9, 10, 11, 12}
	ints.Get(all[:10]...)
	if !bytes.Equal(all, []byte{1, 2, 3, 4, 5, 6, 7, 8, 9, 10, 11, 12}) {
		t.Errorf("P1.1: Get changed what was handed in: %v", all)
	}
}

func TestLayAndGetAgree(t *testing.T) {
	for _, n := range edges() {
		for size := -2; size <= 10; size++ {
			b := ints.Lay(n, size)
			if len(b) != clamp(size, 8) {
				t.Fatalf("P1.1: Lay(%d, %d) has %d octets", n, size, len(b))
			}
			want := ofBits(func(i int) uint {
				if i >= 8*len(b) {
					return 0
				}
				return bitOf(n, i)
			})
			if back := ints.Get(b...); back != want {
				t.Fatalf("P1.1: Get(Lay(%d, %d)): %d, not %d", n, size, back, want)
			}
		}
	}
}

func TestLowAndSignedOfPlainNumbers(t *testing.T) {
	for _, c := range []struct{ n, bits, low, signed int }{
		{255, 8, 255, -1},
		{127, 8, 127, 127},
		{128, 8, 128, -128},
		{300, 8, 44, 44},
		{-1, 8, 255, -1},
		{-300, 8, 212, -44},
		{1, 1, 1, -1},
		{2, 1, 0, 0},
		{-1, 63, math.MaxInt, -1},
		{math.MaxInt, 63, math.MaxInt, -1},
		{1 << 62, 63, 1 << 62, -1 << 62},
		{math.MinInt, 63, 0, 0},
		{math.MinInt, 64, math.MinInt, math.MinInt},
		{math.MaxInt, 64, math.MaxInt, math.MaxInt},
		{-1, 0, 0, 0},
		{-1, -1, 0, 0},
		{-1, math.MinInt, 0, 0},
		{-7, 65, -7, -7},
		{-7, math.MaxInt, -7, -7},
	} {
		if n := ints.Low(c.n, c.bits); n != c.low {
			t.Errorf("P1.2: Low(%d, %d): %d, not %d", c.n, c.bits, n, c.low)
		}
		if n := ints.Signed(c.n, c.bits); n != c.signed {
			t.Errorf("P1.2: Signed(%d, %d): %d, not %d", c.n, c.bits, n, c.signed)
		}
	}
}

func TestLowAndSignedBitByBit(t *testing.T) {
	asked := []int{math.MinInt, -64, -1, 64, 65, 66, 128, math.MaxInt}
	for bits := range 64 {
		asked = append(asked, bits)
	}
	for _, n := range edges() {
		for _, bits := range asked {
			k := clamp(bits, 64)
			greatest := uint(0)
			if k > 0 {
				greatest = bitOf(n, k-1)
			}
			fill := func(beyond uint) int {
				return ofBits(func(i int) uint {
					if i < k {
						return bitOf(n, i)
					}
					return beyond
				})
			}
			if got, want := ints.Low(n, bits), fill(0); got != want {
				t.Fatalf("P1.2: Low(%d, %d): %d, not %d", n, bits, got, want)
			}
			if got, want := ints.Signed(n, bits), fill(greatest); got != want {
				t.Fatalf("P1.2: Signed(%d, %d): %d, not %d", n, bits, got, want)
			}
		}
	}
}

func TestShort(t *testing.T) {
	for _, n := range edges() {
		for bits := 1; bits <= 63; bits++ {
			half := 1 << (bits - 1)
			if got, want := ints.Short(n, bits), -half <= n && n <= half-1; got != want {
				t.Fatalf("P1.2: Short(%d, %d): %v", n, bits, got)
			}
		}
		for _, bits := range []int{0, -1, math.MinInt} {
			if ints.Short(n, bits) != (n == 0) {
				t.Fatalf("P1.2: Short(%d, %d)", n, bits)
			}
		}
		for _, bits := range []int{64, 65, math.MaxInt} {
			if !ints.Short(n, bits) {
				t.Fatalf("P1.2: Short(%d, %d)", n, bits)
			}
		}
	}
}

func TestZigAndZag(t *testing.T) {
	for _, c := range []struct {
		n int
		u uint64
	}{
		{0, 0}, {-1, 1}, {1, 2}, {-2, 3}, {2, 4}, {-3, 5}, {3, 6}, {100, 200}, {-100, 199},
		{1 << 62, 1 << 63}, {-1 << 62, 1<<63 - 1},
		{math.MaxInt, math.MaxUint64 - 1}, {math.MinInt, math.MaxUint64},
	} {
		if u := ints.Zig(c.n); u != c.u {
			t.Errorf("P1.3: Zig(%d): %d, not %d", c.n, u, c.u)
		}
		if n := ints.Zag(c.u); n != c.n {
			t.Errorf("P1.3: Zag(%d): %d, not %d", c.u, n, c.n)
		}
	}
}

func TestZigByItsRule(t *testing.T) {
	for _, n := range edges() {
		want := new(big.Int).Mul(big.NewInt(int64(n)), big.NewInt(2))
		if n < 0 {
			want.Neg(want).Sub(want, big.NewInt(1))
		}
		if u := ints.Zig(n); u != want.Uint64() {
			t.Errorf("P1.3: Zig(%d): %d, not %v", n, u, want)
		}
		if back := ints.Zag(want.Uint64()); back != n {
			t.Errorf("P1.3: Zag(%v): %d, not %d", want, back, n)
		}
		if u := uint64(n); ints.Zig(ints.Zag(u)) != u {
			t.Errorf("P1.3: Zig(Zag(%d)): %d", u, ints.Zig(ints.Zag(u)))
		}
	}
}

func TestTurnOfPlainNumbers(t *testing.T) {
	for _, c := range []struct {
		u    uint32
		by   int
		want uint32
	}{
		{0x12345678, 0, 0x12345678},
		{0x12345678, 4, 0x23456781},
		{0x12345678, -4, 0x81234567},
		{0x12345678, 16, 0x56781234},
		{0x12345678, 32, 0x12345678},
		{0x12345678, -32, 0x12345678},
		{0x12345678, 36, 0x23456781},
		{0x12345678, -36, 0x81234567},
		{0x12345678, 320004, 0x23456781},
		{0x12345678, -320004, 0x81234567},
		{0x80000001, 1, 3},
		{0x80000001, -1, 0xc0000000},
		{1, 31, 0x80000000},
		{0, 7, 0},
		{math.MaxUint32, -13, math.MaxUint32},
		{0x12345678, math.MaxInt, 0x091a2b3c},
		{0x12345678, math.MinInt, 0x12345678},
		{0x12345678, math.MinInt + 1, 0x2468acf0},
	} {
		if u := ints.Turn(c.u, c.by); u != c.want {
			t.Errorf("P1.4: Turn(%#x, %d): %#x, not %#x", c.u, c.by, u, c.want)
		}
	}
}

func TestTurnStepByStep(t *testing.T) {
	for _, u := range []uint32{0, 1, 3, 0x80000000, 0x12345678, 0xdeadbeef, math.MaxUint32} {
		left, right := u, u
		for by := 0; by <= 100; by++ {
			if got := ints.Turn(u, by); got != left {
				t.Fatalf("P1.4: Turn(%#x, %d): %#x, not %#x", u, by, got, left)
			}
			if got := ints.Turn(u, -by); got != right {
				t.Fatalf("P1.4: Turn(%#x, %d): %#x, not %#x", u, -by, got, right)
			}
			left = left*2 + left/0x80000000
			right = right/2 + right%2*0x80000000
		}
	}
}

func TestLog(t *testing.T) {
	for _, c := range []struct {
		u    uint64
		want int
	}{{0, -1}, {1, 0}, {2, 1}, {3, 1}, {4, 2}, {1000, 9}, {1024, 10}, {math.MaxInt, 62}, {math.MaxUint64, 63}} {
		if n := ints.Log(c.u); n != c.want {
			t.Errorf("P1.4: Log(%d): %d, not %d", c.u, n, c.want)
		}
	}
	for bit := range 64 {
		alone := uint64(1) << bit
		for _, u := range []uint64{alone, alone | 1, alone | (alone - 1), alone | 0x5555555555555555&(alone-1)} {
			if n := ints.Log(u); n != bit {
				t.Errorf("P1.4: Log(%#x): %d, not %d", u, n, bit)
			}
		}
	}
}

func TestUpOfPlainNumbers(t *testing.T) {
	for _, c := range []struct{ n, to, want int }{
		{17, 8, 24}, {16, 8, 16}, {15, 8, 16}, {1, 8, 8}, {8, 8, 8}, {9, 1, 9}, {1, 1, 1}, {10, 3, 12}, {512, 512, 512}, {513, 512, 1024},
		{0, 8, 0}, {-1, 8, 0}, {-17, 8, 0}, {math.MinInt, 8, 0},
		{17, 0, 0}, {17, -8, 0}, {17, math.MinInt, 0}, {0, 0, 0}, {-8, -8, 0}, {math.MinInt, math.MinInt, 0}, {math.MinInt, -1, 0},
		{1, 1 << 62, 1 << 62}, {1<<62 - 1, 1 << 62, 1 << 62}, {1 << 62, 1 << 62, 1 << 62},
		{1 << 62, 1, 1 << 62}, {1<<62 - 1, 1, 1<<62 - 1}, {1<<62 + 1, 1, 0}, {1<<62 + 1, 2, 0}, {1<<62 + 1, 1 << 62, 0},
		{1, 1<<62 + 1, 0}, {1 << 62, 3, 0}, {1<<62 - 1, 3, 1<<62 - 1}, {1<<62 + 8, 8, 0},
		{1, math.MaxInt, 0}, {math.MaxInt, 1, 0}, {math.MaxInt, 2, 0}, {math.MaxInt, math.MaxInt, 0}, {math.MaxInt, math.MaxInt - 1, 0},
	} {
		if n := ints.Up(c.n, c.to); n != c.want {
			t.Errorf("P1.5: Up(%d, %d): %d, not %d", c.n, c.to, n, c.want)
		}
	}
}

func TestUpByItsRule(t *testing.T) {
	top := big.NewInt(1 << 62)
	for _, n := range edges() {
		for _, to := range edges() {
			want := int64(0)
			if n >= 1 && to >= 1 {
				whole := big.NewInt(int64(to))
				times := new(big.Int).Div(big.NewInt(int64(n)-1), whole)
				times.Add(times, big.NewInt(1))
				if whole.Mul(whole, times); whole.Cmp(top) <= 0 {
					want = whole.Int64()
				}
			}
			if got := ints.Up(n, to); int64(got) != want {
				t.Fatalf("P1.5: Up(%d, %d): %d, not %d", n, to, got, want)
			}
		}
	}
}

// TestEveryCallEnds: a panic at any of these fails it.
func TestEveryCallEnds(t *testing.T) {
	for _, n := range edges() {
		ints.Zig(n)
		ints.Zag(uint64(n))
		ints.Log(uint64(n))
		for _, m := range edges() {
			ints.Lay(n, m)
			ints.Low(n, m)
			ints.Signed(n, m)
			ints.Short(n, m)
			ints.Up(n, m)
			ints.Turn(uint32(n), m)
		}
	}
}
