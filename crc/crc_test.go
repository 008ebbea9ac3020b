package crc_test

import (
	"bytes"
	"hash/crc32"
	"testing"

	"mothball/crc"
)

// bitwise is the sum as the chapter's words say it: bit by bit, the least first.
func bitwise(b []byte) uint32 {
	register := uint32(0xffffffff)
	for _, octet := range b {
		for bit := 0; bit < 8; bit++ {
			out := register&1 ^ uint32(octet>>bit)&1
			register >>= 1
			if out == 1 {
				register ^= 0xedb88320
			}
		}
	}
	return ^register
}

// mixed is so many octets, of many kinds, the same ones every time.
func mixed(size int, seed uint32) []byte {
	b := make([]byte, size)
	u := seed*2654435761 + 1
	for i := range b {
		u = u*1664525 + 1013904223
		b[i] = byte(u >> 24)
	}
	return b
}

// samples are octets short and long, and of 0 and 255 alone.
func samples() [][]byte {
	all := [][]byte{nil, {}, []byte("a"), []byte("abc"), []byte("123456789"), []byte("mothball")}
	for octet := 0; octet < 256; octet++ {
		all = append(all, []byte{byte(octet)})
	}
	for size := 1; size <= 20; size++ {
		all = append(all, make([]byte, size), bytes.Repeat([]byte{255}, size), mixed(size, uint32(size)))
	}
	for _, size := range []int{127, 128, 129, 511, 512, 513, 4096, 70000} {
		all = append(all, make([]byte, size), bytes.Repeat([]byte{255}, size), mixed(size, 7))
	}
	return all
}

func TestSumKnown(t *testing.T) {
	for _, c := range []struct {
		text string
		want uint32
	}{
		{"", 0},
		{"123456789", 0xcbf43926},
		{"a", 0xe8b7be43},
		{"abc", 0x352441c2},
		{"\x00", 0xd202ef8d},
		{"\xff", 0xff000000},
		{"\x00\x00\x00\x00", 0x2144df1c},
		{"\xff\xff\xff\xff", 0xffffffff},
		{"The quick brown fox jumps over the lazy dog", 0x414fa339},
	} {
		if u := crc.Sum([]byte(c.text)); u != c.want {
			t.Errorf("P2.1: Sum(%q): %08x, not %08x", c.text, u, c.want)
		}
	}
	if u := crc.Sum(); u != 0 {
		t.Errorf("P2.1: Sum(): %08x", u)
	}
	if u := crc.Sum(nil, []byte{}, nil); u != 0 {
		t.Errorf("P2.1: Sum of empty lists: %08x", u)
	}
}

func TestSumAgainstTheWords(t *testing.T) {
	for _, b := range samples() {
		want := bitwise(b)
		if want != crc32.ChecksumIEEE(b) {
			t.Fatalf("the test's own sum of %d octets isn't that of IEEE 802.3", len(b))
		}
		if u := crc.Sum(b); u != want {
			t.Errorf("P2.1: Sum of %d octets: %08x, not %08x", len(b), u, want)
		}
		if u := crc.Add(0, b); u != want {
			t.Errorf("P2.1: Add(0, %d octets): %08x, not %08x", len(b), u, want)
		}
	}
}

func TestSumInPieces(t *testing.T) {
	b := mixed(60, 3)
	want := bitwise(b)
	for i := 0; i <= len(b); i++ {
		if u := crc.Sum(b[:i], b[i:]); u != want {
			t.Errorf("P2.1: Sum in two pieces, cut at %d: %08x, not %08x", i, u, want)
		}
		if u := crc.Add(crc.Sum(b[:i]), b[i:]); u != want {
			t.Errorf("P2.1: Add behind %d octets: %08x, not %08x", i, u, want)
		}
		for j := i; j <= len(b); j++ {
			if u := crc.Sum(nil, b[:i], b[i:j], []byte{}, b[j:], nil); u != want {
				t.Errorf("P2.1: Sum in pieces, cut at %d and %d: %08x, not %08x", i, j, u, want)
			}
		}
	}
	one := make([][]byte, len(b))
	sum := crc.Sum()
	for i := range b {
		one[i] = b[i : i+1]
		sum = crc.Add(sum, b[i:i+1])
	}
	if crc.Sum(one...) != want || sum != want {
		t.Errorf("P2.1: octet by octet: %08x and %08x, not %08x", crc.Sum(one...), sum, want)
	}
	if crc.Sum([]byte("12"), []byte("34")) == crc.Sum([]byte("34"), []byte("12")) {
		t.Error("P2.1: the lists' order is lost")
	}
}

func TestAddOfAnySum(t *testing.T) {
	for _, sum := range []uint32{0, 1, 0x7fffffff, 0x80000000, 0xfffffffe, 0xffffffff, 0xcbf43926} {
		for _, b := range samples() {
			if u, want := crc.Add(sum, b), crc32.Update(sum, crc32.IEEETable, b); u != want {
				t.Errorf("P2.1: Add(%08x, %d octets): %08x, not %08x", sum, len(b), u, want)
			}
		}
	}
}

func TestSeal(t *testing.T) {
	if s := crc.Seal([]byte("123456789")); string(s) != "123456789\x26\x39\xf4\xcb" {
		t.Errorf("P2.2: Seal of the example: %x", s)
	}
	if s := crc.Seal(nil); string(s) != "\x00\x00\x00\x00" {
		t.Errorf("P2.2: Seal of none: %x", s)
	}
	for _, b := range samples() {
		sum := bitwise(b)
		want := append(append([]byte{}, b...), byte(sum), byte(sum>>8), byte(sum>>16), byte(sum>>24))
		s := crc.Seal(b)
		if !bytes.Equal(s, want) {
			t.Errorf("P2.2: Seal of %d octets is another", len(b))
		}
		if o, ok := crc.Open(s); !ok || !bytes.Equal(o, b) {
			t.Errorf("P2.2: Open of what was sealed, %d octets: %d, %v", len(b), len(o), ok)
		}
		if o, ok := crc.Open(crc.Seal(s)); !ok || !bytes.Equal(o, s) {
			t.Errorf("P2.2: Open of what was sealed twice, %d octets: %d, %v", len(b), len(o), ok)
		}
	}
}

// refuse tells of it if Open takes what Seal never answered.
func refuse(t *testing.T, what string, b []byte) {
	t.Helper()
	if o, ok := crc.Open(b); ok || len(o) != 0 {
		t.Errorf("P2.2: Open of %s (%d octets): %x, %v", what, len(b), o, ok)
	}
}

func TestOpenOfOthers(t *testing.T) {
	refuse(t, "nil", nil)
	refuse(t, "no octets", []byte{})
	for size := 1; size < 4; size++ {
		refuse(t, "too few zeroes", make([]byte, size))
		refuse(t, "too few ones", bytes.Repeat([]byte{255}, size))
		refuse(t, "too few of a seal", crc.Seal([]byte("mothball"))[:size])
	}
	refuse(t, "ones alone", bytes.Repeat([]byte{255}, 4))
	refuse(t, "another sum of none", []byte{0, 0, 0, 1})
	refuse(t, "zeroes", make([]byte, 5))
	refuse(t, "the example, a sum that is too great", []byte("123456789\x26\x39\xf4\xcc"))
	refuse(t, "the example, its sum the greatest first", []byte("123456789\xcb\xf4\x39\x26"))
	refuse(t, "the example, its sum ahead", []byte("\x26\x39\xf4\xcb123456789"))
	refuse(t, "the example unsealed", []byte("123456789"))
	s := crc.Seal(mixed(40, 11))
	for size := range s {
		refuse(t, "a seal cut off", s[:size])
	}
	refuse(t, "a seal with an octet behind it", append(append([]byte{}, s...), 0))
	refuse(t, "a seal with its sum once more", append(append([]byte{}, s...), s[40:]...))
}

// turn is b with the bits of pattern turned, from bit on.
func turn(b []byte, bit int, pattern uint32) []byte {
	c := append([]byte{}, b...)
	for i := 0; i < 32; i++ {
		if pattern>>i&1 == 1 {
			c[(bit+i)/8] ^= 1 << ((bit + i) % 8)
		}
	}
	return c
}

// patterns are bits that stand within so many beside each other: the first one and the last one of them among them.
func patterns(wide int) []uint32 {
	if wide == 1 {
		return []uint32{1}
	}
	ends := uint32(1) | 1<<(wide-1)
	inside := uint32(1)<<(wide-1) - 1
	return []uint32{ends, ends | inside, ends | inside&0x55555555, ends | inside&0x9e3779b9}
}

func TestTurnedBits(t *testing.T) {
	for _, b := range [][]byte{{0}, {255}, make([]byte, 9), bytes.Repeat([]byte{255}, 9), []byte("123456789"), mixed(24, 5), mixed(128, 9)} {
		sum := crc.Sum(b)
		for wide := 1; wide <= 32; wide++ {
			for bit := 0; bit+wide <= 8*len(b); bit++ {
				for _, p := range patterns(wide) {
					if crc.Sum(turn(b, bit, p)) == sum {
						t.Fatalf("P2.3: %d octets, bits %08x turned from %d on: the same sum", len(b), p, bit)
					}
				}
			}
		}
	}
}

func TestTurnedSeal(t *testing.T) {
	for _, b := range [][]byte{nil, {0}, []byte("123456789"), mixed(24, 5)} {
		s := crc.Seal(b)
		for bit := 0; bit < 8*len(s); bit++ {
			refuse(t, "a seal with a bit turned", turn(s, bit, 1))
		}
		for wide := 2; wide <= 32; wide++ {
			// The sum's own octets too: as they stand behind the others, bits that lie partly in both are told as well.
			for bit := 0; bit+wide <= 8*len(s); bit++ {
				for _, p := range patterns(wide) {
					refuse(t, "a seal with bits turned", turn(s, bit, p))
				}
			}
		}
	}
}

// roomy is b with spare room behind it, filled with a mark.
func roomy(b []byte) []byte {
	r := bytes.Repeat([]byte{0xa5}, len(b)+16)
	copy(r, b)
	return r[:len(b)]
}

func TestMemory(t *testing.T) {
	for _, b := range [][]byte{{}, {0}, []byte("123456789"), mixed(128, 1)} {
		// What Seal answers is handed to Open, with room behind it in both.
		in := roomy(b)
		s := crc.Seal(in)
		sealed := roomy(s)
		o, ok := crc.Open(sealed)
		crc.Sum(in, in)
		crc.Add(1, in)
		if !ok || !bytes.Equal(o, b) {
			t.Fatalf("P2.2: %d octets don't come back", len(b))
		}
		if !bytes.Equal(in[:cap(in)], roomy(b)[:cap(in)]) || !bytes.Equal(sealed[:cap(sealed)], roomy(s)[:cap(sealed)]) {
			t.Errorf("P2.3: what was handed in, or its spare room, was changed (%d octets)", len(b))
		}
		for i := range s {
			s[i] ^= 255
		}
		for i := range o {
			o[i] ^= 255
		}
		_ = append(s, 1, 2, 3)
		_ = append(o, 1, 2, 3, 4, 5, 6)
		if !bytes.Equal(in[:cap(in)], roomy(b)[:cap(in)]) || !bytes.Equal(sealed[:len(b)], b) || sealed[len(b)+4 : cap(sealed)][0] != 0xa5 {
			t.Errorf("P2.3: an answer shares memory with what was handed in (%d octets)", len(b))
		}
		sum := crc.Sum(b)
		for i := range in {
			in[i] ^= 255
		}
		if crc.Sum(b) != sum || !bytes.Equal(crc.Seal(b)[:len(b)], b) {
			t.Errorf("P2.3: something was kept (%d octets)", len(b))
		}
	}
}
