package pack_test

import (
	"bytes"
	"encoding/binary"
	"math"
	"strings"
	"testing"

	"mothball/pack"
)

// edges are whole numbers at and beside the ends that octets and groups of seven bits have.
func edges() []int {
	ns := []int{math.MinInt, math.MinInt + 1, math.MaxInt - 1, math.MaxInt, 0x0123456789abcdef, -0x0123456789abcdef}
	for n := -300; n <= 300; n++ {
		ns = append(ns, n)
	}
	for bit := 7; bit < 63; bit++ {
		p := 1 << bit
		ns = append(ns, p-1, p, p+1, -p-1, -p, -p+1)
	}
	return ns
}

// sizes are numbers' sizes: all that there are, and wrong ones.
func sizes() []int {
	return []int{math.MinInt, -8, -1, 0, 1, 2, 3, 4, 5, 6, 7, 8, 9, 16, 65536, math.MaxInt}
}

// counted is a size as layer 1 counts it.
func counted(size int) int {
	if size < 0 {
		return 0
	}
	if size > 8 {
		return 8
	}
	return size
}

// laid is a number in octets, by the library's way to lay one.
func laid(n, size int) []byte {
	return binary.LittleEndian.AppendUint64(nil, uint64(n))[:counted(size)]
}

// texts are some of all lengths that the chapter names, not all of them right UTF-8.
func texts() []string {
	all := []string{"", "a", "ab", "\x00", "\xff\xfe", "moth\x00ball", "\xc3\xa4\xe2\x82\xac\xf0\x9f\xa6\x8b"}
	for _, size := range []int{127, 128, 255, 256, 257, 4096, 65533, 65534, 65535} {
		all = append(all, string(mixed(size, uint32(size))))
	}
	return all
}

// mixed is so many octets, of many kinds, the same ones every time.
func mixed(size int, seed uint32) []byte {
	b := make([]byte, size)
	u := seed*2654435761 + 1
	for i := range b {
		u = u*1664525 + 1013904223
		b[i] = byte(u >> 24)
	}
	return b
}

// zigOf is the zigzag at the beginning of octets by the library's varints, which aren't as strict: that it is as short as may be is asked beside.
func zigOf(b []byte) (int, int, bool) {
	n, size := binary.Varint(b)
	if size < 1 || !bytes.Equal(binary.AppendVarint(nil, n), b[:size]) {
		return 0, 0, false
	}
	return int(n), size, true
}

func TestExample(t *testing.T) {
	b := pack.Write().Num(258, 2).Text("ab").Zig(-3).Bytes()
	if !bytes.Equal(b, []byte{2, 1, 2, 0, 'a', 'b', 5}) {
		t.Fatalf("P4.1: %v", b)
	}
	r := pack.Read(b)
	if n := r.Num(2); n != 258 || r.Left() != 5 || r.Done() {
		t.Errorf("P4.2: Num: %d, %d left", n, r.Left())
	}
	if s := r.Text(); s != "ab" || r.Left() != 1 || r.Done() {
		t.Errorf("P4.2: Text: %q, %d left", s, r.Left())
	}
	if n := r.Zig(); n != -3 || r.Left() != 0 || !r.Done() {
		t.Errorf("P4.2: Zig: %d, %d left", n, r.Left())
	}
}

func TestEmptyWriting(t *testing.T) {
	if b := pack.Write().Bytes(); len(b) != 0 {
		t.Errorf("P4.1: an empty writing has %v", b)
	}
	if b := pack.Write().Num(7, 0).Num(7, -1).Num(7, math.MinInt).Bytes(); len(b) != 0 {
		t.Errorf("P4.1: numbers in no octets are %v", b)
	}
}

func TestEachCallAnswersTheWriting(t *testing.T) {
	w := pack.Write()
	if w.Num(1, 1) != w || w.Zig(2) != w || w.Text("x") != w || w.Num(1, -1) != w {
		t.Error("P4.1: another writing is answered")
	}
	if b := w.Bytes(); !bytes.Equal(b, []byte{1, 4, 1, 0, 'x'}) {
		t.Errorf("P4.1: %v", b)
	}
}

func TestWrittenNum(t *testing.T) {
	for _, c := range []struct {
		n, size int
		want    []byte
	}{
		{258, 2, []byte{2, 1}},
		{258, 1, []byte{2}},
		{258, 0, nil},
		{258, -1, nil},
		{-1, 3, []byte{255, 255, 255}},
		{math.MinInt, 8, []byte{0, 0, 0, 0, 0, 0, 0, 128}},
		{math.MaxInt, 8, []byte{255, 255, 255, 255, 255, 255, 255, 127}},
		{-2, 9, []byte{254, 255, 255, 255, 255, 255, 255, 255}},
		{1, math.MaxInt, []byte{1, 0, 0, 0, 0, 0, 0, 0}},
	} {
		if b := pack.Write().Num(c.n, c.size).Bytes(); !bytes.Equal(b, c.want) {
			t.Errorf("P4.1: Num(%d, %d): %v, not %v", c.n, c.size, b, c.want)
		}
	}
	for _, n := range edges() {
		for _, size := range sizes() {
			if b := pack.Write().Num(n, size).Bytes(); !bytes.Equal(b, laid(n, size)) {
				t.Fatalf("P4.1: Num(%d, %d): %v", n, size, b)
			}
		}
	}
}

func TestWrittenZig(t *testing.T) {
	for _, c := range []struct {
		n    int
		want []byte
	}{
		{0, []byte{0}},
		{-1, []byte{1}},
		{1, []byte{2}},
		{-3, []byte{5}},
		{63, []byte{126}},
		{-64, []byte{127}},
		{64, []byte{128, 1}},
		{-65, []byte{129, 1}},
		{8191, []byte{254, 127}},
		{-8192, []byte{255, 127}},
		{8192, []byte{128, 128, 1}},
		{-1 << 62, []byte{255, 255, 255, 255, 255, 255, 255, 255, 127}},
		{1 << 62, []byte{128, 128, 128, 128, 128, 128, 128, 128, 128, 1}},
		{math.MaxInt, []byte{254, 255, 255, 255, 255, 255, 255, 255, 255, 1}},
		{math.MinInt, []byte{255, 255, 255, 255, 255, 255, 255, 255, 255, 1}},
	} {
		if b := pack.Write().Zig(c.n).Bytes(); !bytes.Equal(b, c.want) {
			t.Errorf("P4.1: Zig(%d): %v, not %v", c.n, b, c.want)
		}
	}
	for _, n := range edges() {
		if b, want := pack.Write().Zig(n).Bytes(), binary.AppendVarint(nil, int64(n)); !bytes.Equal(b, want) {
			t.Errorf("P4.1: Zig(%d): %v, not %v", n, b, want)
		}
	}
}

func TestWrittenText(t *testing.T) {
	for _, s := range texts() {
		want := append([]byte{byte(len(s)), byte(len(s) >> 8)}, s...)
		if b := pack.Write().Text(s).Bytes(); !bytes.Equal(b, want) {
			t.Errorf("P4.1: a text of %d octets isn't written so", len(s))
		}
	}
	for _, size := range []int{65536, 65537, 70000, 131071, 131072, 200000} {
		s := string(mixed(size, 5))
		want := append([]byte{255, 255}, s[:65535]...)
		if b := pack.Write().Text(s).Bytes(); !bytes.Equal(b, want) {
			t.Errorf("P4.1: of a text of %d octets not the first 65535 count", size)
		}
	}
	// Octets count, not runes: the last one is cut within.
	b := pack.Write().Text(strings.Repeat("\xc3\xa4", 40000)).Num(9, 1).Bytes()
	if len(b) != 65538 || b[65536] != 0xc3 || b[65537] != 9 {
		t.Errorf("P4.1: a text of long runes has %d octets", len(b))
	}
}

func TestFieldsStandBehindEachOther(t *testing.T) {
	w := pack.Write()
	var want []byte
	put := func(b []byte) {
		want = append(want, b...)
		if !bytes.Equal(w.Bytes(), want) {
			t.Fatalf("P4.1: %d octets, not those of all fields", len(w.Bytes()))
		}
	}
	for i, s := range texts() {
		w.Num(i-3, i%9)
		put(laid(i-3, i%9))
		w.Zig(i * -77)
		put(binary.AppendVarint(nil, int64(i*-77)))
		w.Text(s)
		put(append(laid(len(s), 2), s...))
	}
}

func TestReadNum(t *testing.T) {
	b := []byte{255, 128, 3, 0, 5, 6, 7, 200, 9, 10}
	for _, c := range []struct {
		from, size, num, signed int
	}{
		{0, 0, 0, 0},
		{0, -1, 0, 0},
		{0, math.MinInt, 0, 0},
		{0, 1, 255, -1},
		{2, 1, 3, 3},
		{0, 2, 33023, -32513},
		{1, 2, 896, 896},
		{4, 4, 200<<24 | 7<<16 | 6<<8 | 5, (200-256)<<24 | 7<<16 | 6<<8 | 5},
		{0, 8, (200-256)<<56 | 0x07060500_0380ff, (200-256)<<56 | 0x07060500_0380ff},
		{0, 9, (200-256)<<56 | 0x07060500_0380ff, (200-256)<<56 | 0x07060500_0380ff},
		{2, math.MaxInt, 0x0a09c8_07060500_03, 0x0a09c8_07060500_03},
	} {
		left := len(b) - c.from - counted(c.size)
		if r := pack.Read(b[c.from:]); r.Num(c.size) != c.num || r.Left() != left || r.Done() != (left == 0) {
			t.Errorf("P4.2: Num(%d) of %v: %d, %d left", c.size, b[c.from:], pack.Read(b[c.from:]).Num(c.size), r.Left())
		}
		if r := pack.Read(b[c.from:]); r.Signed(c.size) != c.signed || r.Left() != left || r.Done() != (left == 0) {
			t.Errorf("P4.2: Signed(%d) of %v: %d, %d left", c.size, b[c.from:], pack.Read(b[c.from:]).Signed(c.size), r.Left())
		}
	}
}

func TestNumsThereAndBack(t *testing.T) {
	for _, n := range edges() {
		for _, size := range sizes() {
			b := pack.Write().Num(n, size).Num(n, size).Bytes()
			bits := 8 * counted(size)
			num, signed := n, n
			if bits == 0 {
				num, signed = 0, 0
			} else if bits < 64 {
				num = int(uint64(n) % (1 << bits))
				signed = num
				if num >= 1<<(bits-1) {
					signed -= 1 << bits
				}
			}
			r := pack.Read(b)
			if got := r.Num(size); got != num {
				t.Fatalf("P4.3: Num(%d) of %d: %d, not %d", size, n, got, num)
			}
			if got := r.Signed(size); got != signed {
				t.Fatalf("P4.3: Signed(%d) of %d: %d, not %d", size, n, got, signed)
			}
			if !r.Done() || r.Left() != 0 {
				t.Fatalf("P4.3: %d octets are left behind two numbers of size %d", r.Left(), size)
			}
		}
	}
}

func TestZigsThereAndBack(t *testing.T) {
	for _, n := range edges() {
		b := pack.Write().Zig(n).Num(99, 1).Bytes()
		r := pack.Read(b)
		if got := r.Zig(); got != n || r.Left() != 1 || r.Done() {
			t.Fatalf("P4.3: Zig of %d: %d, %d left", n, got, r.Left())
		}
		if r.Num(1) != 99 || !r.Done() {
			t.Fatalf("P4.3: what stands behind a zigzag of %d", n)
		}
	}
}

func TestTextsThereAndBack(t *testing.T) {
	for _, s := range texts() {
		r := pack.Read(pack.Write().Text(s).Text(s).Num(99, 1).Bytes())
		if r.Text() != s || r.Left() != len(s)+3 || r.Text() != s || r.Left() != 1 || r.Num(1) != 99 || !r.Done() {
			t.Errorf("P4.3: a text of %d octets isn't read again", len(s))
		}
	}
	long := string(mixed(70000, 8))
	r := pack.Read(pack.Write().Text(long).Zig(-7).Bytes())
	if r.Text() != long[:65535] || r.Zig() != -7 || !r.Done() {
		t.Error("P4.3: of a longer text not what counts is read again")
	}
}

func TestVeryEnd(t *testing.T) {
	for _, b := range [][]byte{nil, {}} {
		r := pack.Read(b)
		if !r.Done() || r.Left() != 0 {
			t.Error("P4.2: a reading of nothing isn't done")
		}
		// A number of no octets is there, at the very end too.
		if r.Num(0) != 0 || r.Signed(0) != 0 || r.Num(-5) != 0 || r.Signed(math.MinInt) != 0 || !r.Done() {
			t.Error("P4.2: a number of no octets at the very end")
		}
		for name, take := range takes() {
			r := pack.Read(b)
			take(r)
			hasFailed(t, name+" at the very end", r)
		}
	}
	r := pack.Read([]byte{7})
	if r.Num(1) != 7 || !r.Done() || r.Num(0) != 0 || !r.Done() || r.Num(1) != 0 {
		t.Error("P4.2: at the very end")
	}
	hasFailed(t, "behind the very end", r)
}

// takes are the calls that take a field of at least an octet off.
func takes() map[string]func(r *pack.Reading) bool {
	return map[string]func(r *pack.Reading) bool{
		"Num(1)":           func(r *pack.Reading) bool { return r.Num(1) == 0 },
		"Num(8)":           func(r *pack.Reading) bool { return r.Num(8) == 0 },
		"Num(MaxInt)":      func(r *pack.Reading) bool { return r.Num(math.MaxInt) == 0 },
		"Signed(1)":        func(r *pack.Reading) bool { return r.Signed(1) == 0 },
		"Signed(8)":        func(r *pack.Reading) bool { return r.Signed(8) == 0 },
		"Signed(MaxInt)":   func(r *pack.Reading) bool { return r.Signed(math.MaxInt) == 0 },
		"Zig":              func(r *pack.Reading) bool { return r.Zig() == 0 },
		"Text":             func(r *pack.Reading) bool { return r.Text() == "" },
		"Text behind Text": func(r *pack.Reading) bool { return r.Text() == "" && r.Text() == "" },
	}
}

// hasFailed: everything that is taken from then on is nothing, whatever is called, again and again.
func hasFailed(t *testing.T, what string, r *pack.Reading) {
	t.Helper()
	for range 3 {
		for name, take := range takes() {
			if !take(r) {
				t.Errorf("P4.2: %s: behind it %s answers something", what, name)
			}
			if r.Left() != 0 || r.Done() {
				t.Errorf("P4.2: %s: behind it and %s %d are left, done: %v", what, name, r.Left(), r.Done())
			}
		}
		for _, size := range sizes() {
			if r.Num(size) != 0 || r.Signed(size) != 0 || r.Left() != 0 || r.Done() {
				t.Errorf("P4.2: %s: behind it a number of size %d", what, size)
			}
		}
	}
}

func TestEndWithinANumber(t *testing.T) {
	b := []byte{1, 2, 3, 4, 5, 6, 7, 8}
	for size := 1; size <= 10; size++ {
		for have := range counted(size) {
			r := pack.Read(b[:have])
			if n := r.Num(size); n != 0 {
				t.Errorf("P4.2: Num(%d) of %d octets: %d", size, have, n)
			}
			hasFailed(t, "Num", r)
			r = pack.Read(b[:have])
			if n := r.Signed(size); n != 0 {
				t.Errorf("P4.2: Signed(%d) of %d octets: %d", size, have, n)
			}
			hasFailed(t, "Signed", r)
		}
	}
}

func TestEndWithinAText(t *testing.T) {
	for _, s := range texts() {
		b := pack.Write().Text(s).Bytes()
		for _, have := range []int{0, 1, 2, 3, len(b) / 2, len(b) - 2, len(b) - 1} {
			if have < 0 || have >= len(b) {
				continue
			}
			r := pack.Read(b[:have])
			if got := r.Text(); got != "" {
				t.Errorf("P4.2: %d octets of a text of %d: %q", have, len(s), got)
			}
			hasFailed(t, "Text", r)
		}
	}
}

func TestEndWithinAZigzag(t *testing.T) {
	for _, n := range edges() {
		b := pack.Write().Zig(n).Bytes()
		for have := range len(b) {
			r := pack.Read(b[:have])
			if got := r.Zig(); got != 0 {
				t.Errorf("P4.2: %v, the beginning of a zigzag: %d", b[:have], got)
			}
			hasFailed(t, "Zig", r)
		}
	}
}

func TestWrongZigzags(t *testing.T) {
	nine := strings.Repeat("\x80", 9)
	ones := strings.Repeat("\xff", 9)
	for _, s := range []string{
		"", "\x80", "\xff", "\x80\x80",
		"\x80\x00", "\x81\x00", "\xff\x00", "\x80\x80\x00", "\xff\xff\x00", ones[:8] + "\x00",
		nine + "\x00", ones + "\x00",
		nine + "\x02", nine + "\x03", nine + "\x7f", ones + "\x02", ones + "\x40", ones + "\x7e",
		nine + "\x80", nine + "\x81", nine + "\x80\x00", nine + "\x80\x01", nine + "\x81\x00", ones + "\xff\x01", ones + "\x81\x01",
		strings.Repeat("\x80", 40), strings.Repeat("\xff", 40), strings.Repeat("\x80", 19) + "\x01",
	} {
		for _, tail := range []string{"", "\x01", "\x00\x00\x00\x00"} {
			if s+tail != s && (len(s) == 0 || s[len(s)-1] >= 128 && len(s) < 10) {
				continue // the tail would end it
			}
			r := pack.Read([]byte(s + tail))
			if n := r.Zig(); n != 0 {
				t.Errorf("P4.3: Zig of %x: %d", s+tail, n)
			}
			hasFailed(t, "a wrong zigzag", r)
		}
	}
	for s, want := range map[string]int{"\x00": 0, nine + "\x01": 1 << 62, ones + "\x01": math.MinInt} {
		if r := pack.Read([]byte(s)); r.Zig() != want || !r.Done() {
			t.Errorf("P4.3: a zigzag of %x isn't right", s)
		}
	}
}

// zigHolds holds a reading of a zigzag against the library's varints.
func zigHolds(t *testing.T, b []byte) {
	t.Helper()
	want, size, ok := zigOf(b)
	r := pack.Read(b)
	got := r.Zig()
	left := 0
	if ok {
		left = len(b) - size
	}
	if got != want || r.Left() != left || r.Done() != (ok && left == 0) {
		t.Fatalf("P4.3: Zig of %x: %d, %d left; not %d, %d left", b, got, r.Left(), want, left)
	}
}

func TestAllShortZigzags(t *testing.T) {
	for a := range 256 {
		zigHolds(t, []byte{byte(a)})
		for b := range 256 {
			zigHolds(t, []byte{byte(a), byte(b)})
			zigHolds(t, []byte{byte(a), byte(b), 1})
			zigHolds(t, []byte{byte(a) | 128, byte(b) | 128, 0})
		}
	}
	for ahead := 3; ahead <= 11; ahead++ {
		for _, fill := range []byte{128, 129, 213, 255} {
			b := bytes.Repeat([]byte{fill}, ahead)
			for last := range 256 {
				zigHolds(t, append(b[:ahead:ahead], byte(last)))
				zigHolds(t, append(b[:ahead:ahead], byte(last), 0))
				zigHolds(t, append(b[:ahead:ahead], byte(last), 1))
			}
		}
	}
}

func TestFailsOnlyAtItsField(t *testing.T) {
	// What was taken ahead of the fault is as it was; what stands behind it is never come to.
	r := pack.Read([]byte{1, 2, 0, 'a', 'b', 0x81, 0x00, 9, 9, 9})
	if r.Num(1) != 1 || r.Text() != "ab" || r.Left() != 5 {
		t.Error("P4.2: ahead of a fault")
	}
	if r.Zig() != 0 {
		t.Error("P4.2: at a fault")
	}
	hasFailed(t, "a fault with octets behind it", r)

	r = pack.Read([]byte{5, 0, 'a', 'b', 'c', 'd'})
	if r.Text() != "" {
		t.Error("P4.2: a text that isn't there wholly")
	}
	hasFailed(t, "a text that isn't there wholly", r)

	r = pack.Read([]byte{1, 2, 3})
	if r.Num(4) != 0 {
		t.Error("P4.2: a number that isn't there wholly")
	}
	hasFailed(t, "a number that isn't there wholly", r)
}

func TestLeftAndDoneTakeNothing(t *testing.T) {
	r := pack.Read([]byte{1, 2, 3})
	for left := 3; left > 0; left-- {
		for range 3 {
			if r.Left() != left || r.Done() {
				t.Errorf("P4.2: %d left, not %d", r.Left(), left)
			}
		}
		if n := r.Num(1); n != 4-left {
			t.Errorf("P4.2: %d, not %d", n, 4-left)
		}
	}
	for range 3 {
		if r.Left() != 0 || !r.Done() {
			t.Error("P4.2: it isn't done")
		}
	}
}

func TestWhatIsHandedInIsNotKept(t *testing.T) {
	all := pack.Write().Num(258, 2).Text("moth").Zig(-300).Num(-4, 4).Bytes()
	room := append(bytes.Clone(all), 1, 2, 3, 4)
	handed := room[:len(all)]
	r := pack.Read(handed)
	if r.Num(2) != 258 {
		t.Error("P4.3: the first number")
	}
	clear(room)
	if s := r.Text(); s != "moth" {
		t.Errorf("P4.3: the octets were kept: %q", s)
	}
	if r.Zig() != -300 || r.Signed(4) != -4 || !r.Done() {
		t.Error("P4.3: the octets were kept")
	}
}

func TestWhatIsHandedInIsNotChanged(t *testing.T) {
	all := pack.Write().Num(258, 2).Text("moth").Zig(-300).Bytes()
	room := append(bytes.Clone(all), 1, 2, 3, 4)
	was := bytes.Clone(room)
	r := pack.Read(room[:len(all)])
	r.Num(2)
	r.Text()
	r.Zig()
	if !r.Done() {
		t.Error("P4.3: spare room was read")
	}
	r.Zig()
	pack.Read(room[:5]).Text()
	if !bytes.Equal(room, was) {
		t.Errorf("P4.3: what was handed in is now %v", room)
	}
}

func TestTextIsNewMemory(t *testing.T) {
	b := []byte("\x04\x00moth")
	s := pack.Read(b).Text()
	copy(b[2:], "xxxx")
	if s != "moth" {
		t.Errorf("P4.3: the text is now %q", s)
	}
	w := pack.Write()
	octets := []byte("ball")
	w.Text(string(octets))
	copy(octets, "xxxx")
	if got := w.Bytes(); string(got) != "\x04\x00ball" {
		t.Errorf("P4.3: the writing is now %q", got)
	}
}

func TestBytesAreNewMemory(t *testing.T) {
	w := pack.Write().Num(1, 4).Text("moth")
	want := []byte("\x01\x00\x00\x00\x04\x00moth")
	first, second := w.Bytes(), w.Bytes()
	clear(first[:cap(first)])
	if !bytes.Equal(second, want) || !bytes.Equal(w.Bytes(), want) {
		t.Error("P4.3: a changed answer is seen again")
	}
	// An answer's spare room is no room of the writing, nor is it the other way round.
	grown := append(w.Bytes(), 77)
	w.Num(88, 1)
	if grown[len(want)] != 77 || !bytes.Equal(second, want) || !bytes.Equal(w.Bytes(), append(want, 88)) {
		t.Error("P4.3: an answer and the writing share room")
	}
	for i := range 100 {
		w := pack.Write()
		for range i {
			w.Num(1, 1)
		}
		was := w.Bytes()
		w.Num(2, 1)
		if room := was[:cap(was)]; len(room) > i {
			clear(room[i:])
		}
		if b := w.Bytes(); len(b) != i+1 || b[i] != 2 {
			t.Errorf("P4.3: behind %d octets an answer's spare room is the writing's", i)
		}
	}
}

func TestEachOneForItself(t *testing.T) {
	a, b := pack.Write(), pack.Write()
	a.Num(1, 1)
	b.Text("b")
	a.Zig(2)
	if !bytes.Equal(a.Bytes(), []byte{1, 4}) || !bytes.Equal(b.Bytes(), []byte{1, 0, 'b'}) {
		t.Error("P4.1: two writings share something")
	}
	octets := []byte{1, 2, 3}
	r, s := pack.Read(octets), pack.Read(octets)
	r.Num(8)
	if s.Num(2) != 513 || s.Left() != 1 || s.Num(1) != 3 || !s.Done() || r.Done() {
		t.Error("P4.2: two readings share something")
	}
}

// dice are numbers that look as if by chance, the same ones every time.
type dice uint64

// below is a number from 0 to n - 1.
func (u *dice) below(n int) int {
	*u = *u*6364136223846793005 + 1442695040888963407
	return int(uint64(*u)>>33) % n
}

// any is a number of any length, with either sign.
func (u *dice) any() int {
	n := u.below(1<<31)<<33 ^ u.below(1<<31)<<16 ^ u.below(1<<31)
	return n >> u.below(64)
}

// field is one that was written: how it is read, and what is read then.
type field struct {
	kind, size, n int
	text          string
	octets        int
}

// written puts a field behind, of a kind that falls so.
func written(u *dice, w *pack.Writing) field {
	was := len(w.Bytes())
	f := field{kind: u.below(4), size: u.below(9), n: u.any()}
	switch f.kind {
	case 0:
		w.Num(f.n, f.size)
		f.n = int(binary.LittleEndian.Uint64(append(laid(f.n, f.size), make([]byte, 8)...)))
	case 1:
		f.size = max(f.size, 1)
		f.n >>= 64 - 8*f.size
		w.Num(f.n, f.size)
	case 2:
		w.Zig(f.n)
	case 3:
		f.text = string(mixed(u.below(40), uint32(u.below(1000))))
		w.Text(f.text)
	}
	f.octets = len(w.Bytes()) - was
	return f
}

// read takes a field off: is it what was written?
func (f field) read(r *pack.Reading) bool {
	switch f.kind {
	case 0:
		return r.Num(f.size) == f.n
	case 1:
		return r.Signed(f.size) == f.n
	case 2:
		return r.Zig() == f.n
	}
	return r.Text() == f.text
}

// nothing takes a field off: is it nothing?
func (f field) nothing(r *pack.Reading) bool {
	f.n, f.text = 0, ""
	return f.read(r)
}

func TestFieldsThereAndBack(t *testing.T) {
	for seed := range 400 {
		u := dice(seed)
		w := pack.Write()
		var fields []field
		for range u.below(12) {
			fields = append(fields, written(&u, w))
		}
		b := w.Bytes()
		for have := range len(b) + 1 {
			cutHolds(t, b[:have], fields)
		}
		r := pack.Read(b)
		for _, f := range fields {
			f.read(r)
		}
		if !r.Done() {
			t.Fatalf("P4.3: seed %d: not all is read again", seed)
		}
	}
}

// cutHolds: of octets that may end within a field those ahead of it are read again, and from it on all is nothing.
func cutHolds(t *testing.T, b []byte, fields []field) {
	t.Helper()
	r := pack.Read(b)
	left, failed := len(b), false
	for i, f := range fields {
		failed = failed || f.octets > left
		if failed {
			left = 0
			if !f.nothing(r) {
				t.Fatalf("P4.2: of %d octets field %d is something", len(b), i)
			}
		} else {
			left -= f.octets
			if !f.read(r) {
				t.Fatalf("P4.3: of %d octets field %d isn't what was written", len(b), i)
			}
		}
		if r.Left() != left || r.Done() != (!failed && left == 0) {
			t.Fatalf("P4.2: of %d octets behind field %d %d are left, not %d", len(b), i, r.Left(), left)
		}
	}
}

// model is a reading by the chapter's words.
type model struct {
	b      []byte
	failed bool
}

// take is the next n octets; nil, if it fails.
func (m *model) take(n int) []byte {
	if m.failed || n > len(m.b) {
		m.b, m.failed = nil, true
		return nil
	}
	b := m.b[:n]
	m.b = m.b[n:]
	return b
}

// num is a number of octets, noughts or a sign behind.
func num(b []byte, sign bool) int {
	n := 0
	for i := len(b) - 1; i >= 0; i-- {
		if i == len(b)-1 && sign {
			n = int(int8(b[i]))
		} else {
			n = n*256 + int(b[i])
		}
	}
	return n
}

// zig takes a zigzag.
func (m *model) zig() int {
	n, size, ok := zigOf(m.b)
	if !ok {
		size = len(m.b) + 1
	}
	m.take(size)
	return n
}

func TestAgainstTheWords(t *testing.T) {
	for seed := range 3000 {
		u := dice(seed)
		b := make([]byte, u.below(60))
		for i := range b {
			// Small octets, so that texts are short enough to be there, and great ones, for long zigzags.
			b[i] = byte(u.below([]int{2, 8, 256}[u.below(3)]) + []int{0, 0, 128}[u.below(3)])
		}
		r, m := pack.Read(b), &model{b: b}
		for step := range 15 {
			var got, want int
			var text, wantText string
			size := u.below(12) - 2
			switch u.below(4) {
			case 0:
				got, want = r.Num(size), num(m.take(counted(size)), false)
			case 1:
				got, want = r.Signed(size), num(m.take(counted(size)), true)
			case 2:
				got, want = r.Zig(), m.zig()
			case 3:
				text, wantText = r.Text(), string(m.take(num(m.take(2), false)))
			}
			if got != want || text != wantText || r.Left() != len(m.b) || r.Done() != (!m.failed && len(m.b) == 0) {
				t.Fatalf("P4.2: seed %d, step %d: %d %q, not %d %q", seed, step, got, text, want, wantText)
			}
		}
	}
}

// TestEveryCallEnds: a panic at any of these fails it.
func TestEveryCallEnds(t *testing.T) {
	octets := mixed(300, 1)
	for _, n := range edges() {
		w := pack.Write().Zig(n)
		for _, m := range edges() {
			w.Num(n, m)
		}
		w.Bytes()
		for _, have := range []int{0, 1, 7, 300} {
			r := pack.Read(octets[:have])
			r.Num(n)
			r.Signed(n)
			r.Zig()
			r.Text()
			r.Left()
			r.Done()
		}
	}
}
