package super_test

import (
	"bytes"
	"encoding/binary"
	"hash/crc32"
	"math"
	"testing"

	"mothball/api"
	"mothball/super"
)

// plain is a superblock with another number in each field.
var plain = api.Super{Gen: 7, Journal: 16, Area: 8, Which: 1, Len: 300, Sum: 0xfedcba98, Epoch: 2, Start: 15}

// field is one that has ends: its least and its greatest within plain, and how it is set.
type field struct {
	name        string
	least, most int
	set         func(s *api.Super, n int)
	size        int // how many octets it has in the sector
}

// fields are all of them but Sum, which has no ends.
func fields() []field {
	return []field{
		{"Gen", 1, 1 << 48, func(s *api.Super, n int) { s.Gen = n }, 8},
		// Start and Len of plain are ends of Journal and Area, if they stay.
		{"Journal", 4, 4096, func(s *api.Super, n int) { s.Journal, s.Start = n, 0 }, 4},
		{"Area", 1, 4096, func(s *api.Super, n int) { s.Area, s.Len = n, 0 }, 4},
		{"Which", 0, 1, func(s *api.Super, n int) { s.Which = n }, 4},
		{"Len", 0, 1024, func(s *api.Super, n int) { s.Len = n }, 4},
		{"Epoch", 1, 1 << 31, func(s *api.Super, n int) { s.Epoch = n }, 4},
		{"Start", 0, 15, func(s *api.Super, n int) { s.Start = n }, 4},
	}
}

// with is plain with a field set.
func (f field) with(n int) api.Super {
	s := plain
	f.set(&s, n)
	return s
}

// tried are a field's numbers at its ends, beyond them, and far away; some of them have low octets that are right.
func (f field) tried() []int {
	return []int{
		f.least, f.least + 1, f.most - 1, f.most, (f.least + f.most) / 2,
		f.least - 1, f.most + 1, f.least - 2, f.most + 2, -f.most, 2*f.most + 1,
		f.least + 1<<32, f.most + 1<<32, f.least - 1<<32, f.least + 1<<56, f.least | math.MinInt,
		1 << 62, math.MaxInt, math.MaxInt - 1, math.MinInt, math.MinInt + 1,
	}
}

// edges are right superblocks, with each field at its ends.
func edges() []api.Super {
	all := []api.Super{
		plain,
		{Gen: 1, Journal: 4, Area: 1, Epoch: 1},
		{Gen: 1 << 48, Journal: 4096, Area: 4096, Which: 1, Len: 524288, Sum: math.MaxUint32, Epoch: 1 << 31, Start: 4095},
		{Gen: 1<<48 - 1, Journal: 4, Area: 1, Len: 128, Sum: 1 << 31, Epoch: 1<<31 - 1, Start: 3},
		{Gen: 2, Journal: 5, Area: 2, Which: 1, Len: 256, Sum: 1, Epoch: 1, Start: 4},
	}
	for _, f := range fields() {
		for _, n := range []int{f.least, f.least + 1, f.most - 1, f.most} {
			all = append(all, f.with(n))
		}
	}
	for _, sum := range []uint32{0, 1, 255, 256, 1<<31 - 1, 1 << 31, math.MaxUint32} {
		s := plain
		s.Sum = sum
		all = append(all, s)
	}
	return all
}

// right is what the chapter's words say of a superblock.
func right(s api.Super) bool {
	switch {
	case s.Gen < 1, s.Gen > 281474976710656, s.Journal < 4, s.Journal > 4096, s.Area < 1, s.Area > 4096:
		return false
	case s.Which != 0 && s.Which != 1, s.Len < 0, s.Len > 128*s.Area:
		return false
	}
	return s.Epoch >= 1 && s.Epoch <= 2147483648 && s.Start >= 0 && s.Start < s.Journal
}

// sealed is octets with the sum of the first 124 in the last four.
func sealed(b []byte) []byte {
	b = bytes.Clone(b)
	binary.LittleEndian.PutUint32(b[124:], crc32.ChecksumIEEE(b[:124]))
	return b
}

// laid is the sector that the chapter's words say of a superblock, be it right or not.
func laid(s api.Super) []byte {
	b := append(make([]byte, 0, 128), "MOTH"...)
	b = binary.LittleEndian.AppendUint64(b, uint64(s.Gen))
	for _, n := range []int{s.Journal, s.Area, s.Which, s.Len, int(s.Sum), s.Epoch, s.Start} {
		b = binary.LittleEndian.AppendUint32(b, uint32(n))
	}
	b = append(b, make([]byte, 76)...)
	b = binary.LittleEndian.AppendUint64(b, uint64(s.Gen))
	return sealed(append(b, 0, 0, 0, 0))
}

// put is the sector that the program answers.
func put(t *testing.T, s api.Super) []byte {
	t.Helper()
	b, err := super.Put(s)
	if err != api.OK || len(b) != api.Sector {
		t.Fatalf("P5.1: Put(%+v): %d octets, %v", s, len(b), err)
	}
	return b
}

// gen is plain's sector with another Gen.
func gen(t *testing.T, n int) []byte {
	t.Helper()
	s := plain
	s.Gen = n
	return put(t, s)
}

// join is pieces, one behind the other.
func join(pieces ...[]byte) []byte { return bytes.Join(pieces, nil) }

// none fails if octets are taken for a superblock's sector, alone or in either place.
func none(t *testing.T, what string, b []byte) {
	t.Helper()
	if s, ok := super.Get(b); ok || s != (api.Super{}) {
		t.Errorf("P5.1: Get: %s: %+v, %v", what, s, ok)
	}
	for _, two := range [][]byte{join(b, make([]byte, 128)), join(make([]byte, 128), b)} {
		if s, ok := super.Newest(two); ok || s != (api.Super{}) {
			t.Errorf("P5.2: Newest: %s: %+v, %v", what, s, ok)
		}
	}
}

// newest fails if of two sectors the newest superblock isn't that with a Gen; 0: there is none.
func newest(t *testing.T, what string, b []byte, want int) {
	t.Helper()
	s := api.Super{}
	if want > 0 {
		s = plain
		s.Gen = want
	}
	if got, ok := super.Newest(b); got != s || ok != (want > 0) {
		t.Errorf("P5.2: Newest: %s: %+v, %v, not Gen %d", what, got, ok, want)
	}
}

// top fails if Top of octets isn't that.
func top(t *testing.T, what string, b []byte, want int) {
	t.Helper()
	if n := super.Top(b); n != want {
		t.Errorf("P5.2: Top: %s: %d, not %d", what, n, want)
	}
}

// dice are numbers that look as if by chance, the same ones every time.
type dice uint64

// below is a number from 0 to n - 1.
func (u *dice) below(n int) int {
	*u = *u*6364136223846793005 + 1442695040888963407
	return int(uint64(*u)>>33) % n
}

// super is a right one.
func (u *dice) super() api.Super {
	s := api.Super{Journal: 4 + u.below(4093), Area: 1 + u.below(4096), Which: u.below(2), Sum: uint32(u.below(1<<16)<<16 | u.below(1<<16))}
	s.Gen = 1 + (u.below(1<<24)<<24|u.below(1<<24))>>u.below(48)
	s.Len = u.below(128*s.Area + 1)
	s.Epoch = 1 + u.below(1<<31)>>u.below(31)
	s.Start = u.below(s.Journal)
	return s
}

func TestRight(t *testing.T) {
	for _, s := range edges() {
		if !super.Right(s) {
			t.Errorf("P5.1: Right(%+v): false", s)
		}
	}
	for _, f := range fields() {
		for _, n := range f.tried() {
			want := n >= f.least && n <= f.most
			if super.Right(f.with(n)) != want {
				t.Errorf("P5.1: Right with %s %d: not %v", f.name, n, want)
			}
		}
	}
	if super.Right(api.Super{}) {
		t.Error("P5.1: the zero one is right")
	}
}

func TestRightOfTwoFields(t *testing.T) {
	for _, area := range []int{1, 2, 3, 31, 4095, 4096} {
		for _, c := range []struct {
			length int
			want   bool
		}{{-1, false}, {0, true}, {128*area - 1, true}, {128 * area, true}, {128*area + 1, false}} {
			s := plain
			s.Area, s.Len = area, c.length
			if super.Right(s) != c.want {
				t.Errorf("P5.1: Right with Area %d, Len %d: not %v", area, c.length, c.want)
			}
		}
	}
	for _, journal := range []int{4, 5, 17, 4095, 4096} {
		for _, c := range []struct {
			start int
			want  bool
		}{{-1, false}, {0, true}, {journal - 1, true}, {journal, false}, {journal + 1, false}} {
			s := plain
			s.Journal, s.Start = journal, c.start
			if super.Right(s) != c.want {
				t.Errorf("P5.1: Right with Journal %d, Start %d: not %v", journal, c.start, c.want)
			}
		}
	}
}

func TestPutOctetByOctet(t *testing.T) {
	s := api.Super{Gen: 0x0605040302 + 1<<40, Journal: 0x0908, Area: 0x0b0a, Which: 1, Len: 0x050d0c, Sum: 0x14131211, Epoch: 0x18171615, Start: 0x0119}
	want := "MOTH" + "\x02\x03\x04\x05\x06\x01\x00\x00" + "\x08\x09\x00\x00" + "\x0a\x0b\x00\x00" + "\x01\x00\x00\x00" + "\x0c\x0d\x05\x00" + "\x11\x12\x13\x14" + "\x15\x16\x17\x18" + "\x19\x01\x00\x00"
	want += string(make([]byte, 76)) + "\x02\x03\x04\x05\x06\x01\x00\x00"
	b := put(t, s)
	if string(b[:124]) != want {
		t.Fatalf("P5.1: Put: %x, not %x", b, want)
	}
	if sum := binary.LittleEndian.Uint32(b[124:]); sum != crc32.ChecksumIEEE(b[:124]) {
		t.Errorf("P5.1: Put: the sum is %08x", sum)
	}
}

func TestPutKnown(t *testing.T) {
	b := put(t, api.Super{Gen: 1, Journal: 8, Area: 4, Epoch: 1})
	want := make([]byte, 128)
	copy(want, "MOTH")
	want[4], want[12], want[16], want[32], want[116] = 1, 8, 4, 1, 1
	copy(want[124:], sealed(want)[124:])
	if !bytes.Equal(b, want) {
		t.Errorf("P5.1: the first one: %x", b)
	}
}

func TestThereAndBack(t *testing.T) {
	all := edges()
	u := dice(5)
	for range 2000 {
		all = append(all, u.super())
	}
	for _, s := range all {
		if !right(s) {
			t.Fatalf("the test's own superblock isn't right: %+v", s)
		}
		b := put(t, s)
		if !bytes.Equal(b, laid(s)) {
			t.Errorf("P5.1: Put(%+v): %x", s, b)
		}
		if got, ok := super.Get(b); !ok || got != s {
			t.Errorf("P5.3: %+v came back as %+v, %v", s, got, ok)
		}
	}
}

func TestPutOfWrongOnes(t *testing.T) {
	wrong := []api.Super{{}, {Gen: 7}, {Journal: 4096, Area: 4096}}
	for _, f := range fields() {
		for _, n := range f.tried() {
			if n < f.least || n > f.most {
				wrong = append(wrong, f.with(n))
			}
		}
	}
	for _, s := range wrong {
		if b, err := super.Put(s); err != api.ErrArg || len(b) != 0 {
			t.Errorf("P5.1: Put(%+v): %d octets, %v", s, len(b), err)
		}
	}
}

// TestGetOfSealedOnes: the sum alone makes no superblock.
func TestGetOfSealedOnes(t *testing.T) {
	for _, f := range fields() {
		for _, n := range f.tried() {
			// What the field's octets can't tell is another number there.
			if f.size == 4 && n != int(uint32(n)) || n >= f.least && n <= f.most {
				continue
			}
			none(t, f.name+" isn't right, but sealed", laid(f.with(n)))
		}
	}
	b := laid(plain)
	for i := range 124 {
		for octet := range 256 {
			x := bytes.Clone(b)
			x[i] = byte(octet)
			x = sealed(x)
			// In a field it may be another superblock's sector.
			want, is := told(x)
			if got, ok := super.Get(x); got != want || ok != is {
				t.Errorf("P5.1: Get with octet %d %d, sealed: %+v, %v", i, octet, got, ok)
			}
		}
	}
	for i := 40; i < 116; i++ {
		for _, octet := range []byte{1, 128} {
			x := bytes.Clone(b)
			x[i] = octet
			none(t, "no nought where one stands, sealed", sealed(x))
		}
	}
	for _, mark := range []string{"moth", "MOTI", "NOTH", "HTOM", "\x00\x00\x00\x00"} {
		x := bytes.Clone(b)
		copy(x, mark)
		none(t, "another mark, sealed", sealed(x))
	}
	none(t, "noughts, sealed", sealed(make([]byte, 128)))
}

func TestGetOfUnlikeGens(t *testing.T) {
	for _, n := range []int{1, 5, 6, 7, 8, 9, 263, 1 << 48, 0, -7, 1<<48 + 7, 7 + 1<<56} {
		for _, at := range []int{4, 116} {
			x := laid(plain)
			binary.LittleEndian.PutUint64(x[at:], uint64(n))
			if n != plain.Gen {
				none(t, "two unlike Gens, sealed", sealed(x))
			}
		}
	}
}

// TestGetOfOtherFields: a sector whose field was changed and sealed again is the other superblock's.
func TestGetOfOtherFields(t *testing.T) {
	for _, f := range fields() {
		for _, n := range f.tried() {
			want := f.with(n)
			if !right(want) {
				continue
			}
			if got, ok := super.Get(laid(want)); !ok || got != want {
				t.Errorf("P5.1: Get with %s %d: %+v, %v", f.name, n, got, ok)
			}
		}
	}
}

func TestGetOfWrongLengths(t *testing.T) {
	b := put(t, plain)
	long := join(b, b, make([]byte, 300))
	for n := range len(long) + 1 {
		if n == 128 {
			continue
		}
		if s, ok := super.Get(long[:n]); ok || s != (api.Super{}) {
			t.Errorf("P5.1: Get of %d octets: %+v, %v", n, s, ok)
		}
	}
	none(t, "nil", nil)
	none(t, "empty", []byte{})
	none(t, "noughts", make([]byte, 128))
	none(t, "ones", bytes.Repeat([]byte{255}, 128))
	none(t, "a later piece", long[1:129])
	// Spare room behind the octets isn't octets.
	if s, ok := super.Get(long[:128]); !ok || s != plain {
		t.Errorf("P5.1: Get: %+v, %v", s, ok)
	}
	none(t, "one octet is in the spare room", long[:127])
}

// TestGetOfCutNoughts: a sector that lacks but noughts at its end is none, nor is one with noughts behind it.
func TestGetOfCutNoughts(t *testing.T) {
	tried := 0
	for sum := range uint32(2000) {
		s := plain
		s.Sum = sum
		b := put(t, s)
		if b[127] != 0 {
			continue
		}
		tried++
		for _, x := range [][]byte{b[:127], join(b, make([]byte, 1)), join(b, make([]byte, 128))} {
			if got, ok := super.Get(x); ok || got != (api.Super{}) {
				t.Errorf("P5.1: Get of %d octets: %+v, %v", len(x), got, ok)
			}
		}
		if got, ok := super.Newest(join(gen(t, 6), b[:127])); ok || got != (api.Super{}) {
			t.Errorf("P5.2: Newest of 255 octets: %+v, %v", got, ok)
		}
	}
	if tried == 0 {
		t.Fatal("no sector ends with a nought")
	}
}

func TestTurned(t *testing.T) {
	for _, s := range []api.Super{plain, edges()[1], edges()[2]} {
		b := put(t, s)
		for i := range b {
			for octet := range 256 {
				if byte(octet) == b[i] {
					continue
				}
				x := bytes.Clone(b)
				x[i] = byte(octet)
				none(t, "an octet turned", x)
			}
		}
	}
}

// TestTurnedInARow: up to 32 bits that stand beside each other are seen, wherever they are.
func TestTurnedInARow(t *testing.T) {
	u := dice(11)
	b := put(t, plain)
	for from := range 8 * len(b) {
		for range 8 {
			x := bytes.Clone(b)
			last := min(from+u.below(32), 8*len(b)-1)
			x[from/8] ^= 1 << (from % 8)
			for bit := from + 1; bit < last; bit++ {
				x[bit/8] ^= byte(u.below(2) << (bit % 8))
			}
			if last > from {
				x[last/8] ^= 1 << (last % 8)
			}
			none(t, "bits turned", x)
		}
	}
}

// TestTorn: a piece of a newer sector over an older one, cut anywhere.
func TestTorn(t *testing.T) {
	was := api.Super{Gen: 5, Journal: 16, Area: 8, Len: 77, Sum: 0x01020304, Epoch: 1, Start: 3}
	next := api.Super{Gen: 7, Journal: 16, Area: 8, Which: 1, Len: 300, Sum: 0xa0b0c0d0, Epoch: 9, Start: 15}
	a, b := put(t, was), put(t, next)
	for cut := range 129 {
		x := join(b[:cut], a[cut:])
		if bytes.Equal(x, a) || bytes.Equal(x, b) {
			continue
		}
		none(t, "a torn one", x)
		none(t, "a torn one over noughts", join(b[:cut], make([]byte, 128-cut)))
		six := gen(t, 6)
		newest(t, "a torn one beside another", join(six, x), 6)
		if cut < 116 {
			// Till the second Gen is laid its two are unlike, and no sum makes it right again.
			none(t, "a torn one, sealed", sealed(x))
		}
		top(t, "a torn one", join(make([]byte, 128), x), 7)
	}
}

func TestNewest(t *testing.T) {
	const last = 1 << 48
	empty := make([]byte, 128)
	turned := func(n int) []byte {
		b := gen(t, n)
		b[50] ^= 4
		return b
	}
	for _, c := range []struct {
		what string
		b    []byte
		want int
	}{
		{"6 and 7", join(gen(t, 6), gen(t, 7)), 7},
		{"6 and 7 turned", join(gen(t, 6), turned(7)), 6},
		{"6 turned and 7", join(turned(6), gen(t, 7)), 7},
		{"6 turned and 7 turned", join(turned(6), turned(7)), 0},
		{"8 and 7", join(gen(t, 8), gen(t, 7)), 8},
		{"8 turned and 7", join(turned(8), gen(t, 7)), 7},
		{"1 alone", join(empty, gen(t, 1)), 1},
		{"2 and 1", join(gen(t, 2), gen(t, 1)), 2},
		{"2 alone", join(gen(t, 2), empty), 2},
		{"100 and 3, far apart", join(gen(t, 100), gen(t, 3)), 100},
		{"4 and 99, far apart", join(gen(t, 4), gen(t, 99)), 99},
		{"the last two", join(gen(t, last), gen(t, last-1)), last},
		{"the last and the first", join(gen(t, last), gen(t, 1)), last},
		{"two and the last but one", join(gen(t, 2), gen(t, last-1)), last - 1},
		{"none", join(empty, empty), 0},
		{"each in the other's place", join(gen(t, 7), gen(t, 6)), 0},
		{"7 in the other's place", join(gen(t, 7), empty), 0},
		{"6 in the other's place", join(empty, gen(t, 6)), 0},
		{"9 in the other's place beside 7", join(gen(t, 9), gen(t, 7)), 7},
		{"9 twice", join(gen(t, 9), gen(t, 9)), 9},
		{"8 in the other's place beside 6", join(gen(t, 6), gen(t, 8)), 6},
		{"6 twice", join(gen(t, 6), gen(t, 6)), 6},
		{"the last in the other's place beside 4", join(gen(t, 4), gen(t, last)), 4},
	} {
		newest(t, c.what, c.b, c.want)
	}
}

// TestNewestTellsAll: not the Gen alone is that of the newest one.
func TestNewestTellsAll(t *testing.T) {
	u := dice(3)
	for range 500 {
		a, b := u.super(), u.super()
		a.Gen &^= 1
		b.Gen |= 1
		if a.Gen == 0 {
			a.Gen = 2
		}
		want := a
		if b.Gen > a.Gen {
			want = b
		}
		if got, ok := super.Newest(join(put(t, a), put(t, b))); !ok || got != want {
			t.Fatalf("P5.2: of %+v and %+v: %+v, %v", a, b, got, ok)
		}
		if got, ok := super.Newest(join(put(t, b), put(t, a))); ok || got != (api.Super{}) {
			t.Fatalf("P5.2: of %+v and %+v in each other's places: %+v, %v", a, b, got, ok)
		}
	}
}

// TestNewestOfSealedOnes: what isn't right isn't the newest, though it is greater, in its place, and sealed.
func TestNewestOfSealedOnes(t *testing.T) {
	seven := gen(t, 7)
	for _, f := range fields() {
		for _, n := range f.tried() {
			s := f.with(n)
			if f.name == "Gen" {
				s.Gen &^= 1
			} else {
				s.Gen = 8
			}
			if f.size == 4 && n != int(uint32(n)) || right(s) {
				continue
			}
			newest(t, "a sealed one whose "+f.name+" isn't right", join(laid(s), seven), 7)
		}
	}
}

func TestTurns(t *testing.T) {
	two := make([]byte, 256)
	newest(t, "ahead of all", two, 0)
	top(t, "ahead of all", two, 0)
	for n := 1; n <= 40; n++ {
		copy(two[n%2*128:], gen(t, n))
		newest(t, "in turns", two, n)
		top(t, "in turns", two, n)
	}
}

// TestTurnsGoOnBehindTears: a Gen that was torn is still the top, and what is newest is still there.
func TestTurnsGoOnBehindTears(t *testing.T) {
	for cut := 5; cut < 128; cut++ {
		two := join(gen(t, 40), gen(t, 41))
		copy(two, gen(t, 42)[:cut])
		newest(t, "torn at the next", two, 41)
		top(t, "torn at the next", two, 42)
	}
}

func TestTwoOfWrongLengths(t *testing.T) {
	long := join(gen(t, 6), gen(t, 7), gen(t, 8), gen(t, 9))
	for n := range len(long) + 1 {
		want := 0
		if n == 256 {
			want = 7
		}
		newest(t, "of other lengths", long[:n], want)
		top(t, "of other lengths", long[:n], want)
	}
	newest(t, "nil", nil, 0)
	top(t, "nil", nil, 0)
	newest(t, "empty", []byte{}, 0)
	top(t, "empty", []byte{}, 0)
}

// places are where Top looks.
func places() []int { return []int{4, 116, 128 + 4, 128 + 116} }

func TestTopOfEachPlace(t *testing.T) {
	const last = 1 << 48
	for i, at := range places() {
		for _, c := range []struct{ n, want int }{
			{0, 0}, {1, 1}, {2, 2}, {255, 255}, {256, 256}, {1 << 32, 1 << 32},
			{last - 1, last - 1}, {last, last}, {last + 1, 0}, {2 * last, 0}, {1 << 62, 0}, {1<<56 + 5, 0},
			{math.MaxInt, 0}, {-1, 0}, {-last, 0}, {math.MinInt, 0}, {math.MinInt + 5, 0}, {-2, 0},
		} {
			b := make([]byte, 256)
			binary.LittleEndian.PutUint64(b[at:], uint64(c.n))
			top(t, "one place", b, c.want)
			// The other places count as ever.
			other := places()[(i+1)%4]
			binary.LittleEndian.PutUint64(b[other:], 3)
			top(t, "one place, and 3 in another", b, max(c.want, 3))
		}
	}
}

func TestTopOfFour(t *testing.T) {
	for greatest := range places() {
		b := bytes.Repeat([]byte{255}, 256)
		for i, at := range places() {
			n := 10 + i
			if i == greatest {
				n = 1000
			}
			binary.LittleEndian.PutUint64(b[at:], uint64(n))
		}
		top(t, "four numbers in octets that are no sectors", b, 1000)
	}
	top(t, "ones", bytes.Repeat([]byte{255}, 256), 0)
	b := join(gen(t, 6), gen(t, 7))
	b[0], b[128], b[60], b[127] = 0, 0, 9, 9
	newest(t, "turned", b, 0)
	top(t, "turned", b, 7)
	top(t, "in each other's places", join(gen(t, 9), gen(t, 8)), 9)
}

// TestTopLooksNowhereElse: octets elsewhere don't count, nor does the eighth of a number, which alone makes it too great.
func TestTopLooksNowhereElse(t *testing.T) {
	want := map[int]int{}
	for _, at := range places() {
		for i := range 7 {
			want[at+i] = 1 << (8 * i)
		}
	}
	for i := range 256 {
		b := make([]byte, 256)
		b[i] = 1
		top(t, "one octet", b, want[i])
	}
}

func TestWhatIsHandedIn(t *testing.T) {
	room := join(gen(t, 6), gen(t, 7), bytes.Repeat([]byte{77}, 64))
	was := bytes.Clone(room)
	one, ok := super.Get(room[:128])
	both, also := super.Newest(room[:256])
	super.Top(room[:256])
	if !ok || !also || !bytes.Equal(room, was) {
		t.Fatal("P5.3: what is handed in was changed")
	}
	clear(room)
	if one.Gen != 6 || both.Gen != 7 || one.Len != plain.Len || both.Sum != plain.Sum {
		t.Error("P5.3: what is handed in was kept")
	}
	newest(t, "cleared", room[:256], 0)
	none(t, "cleared", room[:128])
	copy(room, was)
	newest(t, "as it was", room[:256], 7)
}

func TestAnswersAreNewMemory(t *testing.T) {
	want := laid(plain)
	first, second := put(t, plain), put(t, plain)
	clear(first[:cap(first)])
	if !bytes.Equal(second, want) || !bytes.Equal(put(t, plain), want) {
		t.Error("P5.3: a changed answer is seen again")
	}
	a, b := append(put(t, plain), 1), append(second, 2)
	if a[128] != 1 || b[128] != 2 || !bytes.Equal(put(t, plain), want) {
		t.Error("P5.3: answers share room")
	}
	if s, ok := super.Get(second); !ok || s != plain {
		t.Errorf("P5.3: %+v, %v", s, ok)
	}
}

// TestEveryCallEnds: a panic at any of these fails it.
func TestEveryCallEnds(t *testing.T) {
	u := dice(9)
	for n := range 400 {
		b := make([]byte, n)
		for i := range b {
			b[i] = byte(u.below(256))
		}
		for _, head := range []string{"", "MOTH"} {
			copy(b, head)
			if s, ok := super.Get(b); ok || s != (api.Super{}) {
				t.Errorf("P5.1: Get of any %d octets: %+v", n, s)
			}
			newest(t, "any octets", b, 0)
			if got := super.Top(b); got < 0 || got > 1<<48 || n != 256 && got != 0 {
				t.Errorf("P5.2: Top of any %d octets: %d", n, got)
			}
		}
	}
	ends := []int{math.MinInt, -1, 0, 1, math.MaxInt}
	for range 2000 {
		pick := func() int { return ends[u.below(len(ends))] }
		s := api.Super{Gen: pick(), Journal: pick(), Area: pick(), Which: pick(), Len: pick(), Epoch: pick(), Start: pick()}
		if _, err := super.Put(s); super.Right(s) || err != api.ErrArg {
			t.Errorf("P5.1: Put(%+v): %v", s, err)
		}
	}
}

// TestAgainstTheWords: superblocks by chance, near what is right, and their sectors, some of them turned and sealed again.
func TestAgainstTheWords(t *testing.T) {
	u := dice(21)
	for range 5000 {
		s := u.super()
		all := fields()
		for range u.below(3) {
			f := all[u.below(len(all))]
			tried := f.tried()
			f.set(&s, tried[u.below(len(tried))])
		}
		if super.Right(s) != right(s) {
			t.Fatalf("P5.1: Right(%+v): not %v", s, right(s))
		}
		b, err := super.Put(s)
		if right(s) && (err != api.OK || !bytes.Equal(b, laid(s))) || !right(s) && (err != api.ErrArg || len(b) > 0) {
			t.Fatalf("P5.1: Put(%+v): %x, %v", s, b, err)
		}
		x := laid(s)
		for range u.below(3) {
			x[u.below(128)] ^= byte(1 + u.below(255))
		}
		if u.below(2) == 0 {
			x = sealed(x)
		}
		want, is := told(x)
		if got, ok := super.Get(x); got != want || ok != is {
			t.Fatalf("P5.1: Get(%x): %+v, %v, not %+v", x, got, ok, want)
		}
	}
}

// told is the superblock of 128 octets, by the chapter's words.
func told(b []byte) (api.Super, bool) {
	four := func(at int) int { return int(binary.LittleEndian.Uint32(b[at:])) }
	s := api.Super{
		Gen:     int(binary.LittleEndian.Uint64(b[4:])),
		Journal: four(12), Area: four(16), Which: four(20), Len: four(24),
		Sum:   uint32(four(28)),
		Epoch: four(32), Start: four(36),
	}
	same := string(b[:4]) == "MOTH" && bytes.Equal(b[4:12], b[116:124]) && bytes.Equal(b[40:116], make([]byte, 76))
	if !same || !right(s) || crc32.ChecksumIEEE(b[:124]) != uint32(four(124)) {
		return api.Super{}, false
	}
	return s, true
}
