package entry_test

import (
	"bytes"
	"encoding/binary"
	"hash/crc32"
	"math"
	"slices"
	"testing"

	"mothball/api"
	"mothball/entry"
)

const lastGen = 1<<48 - 1

// at is the key of a page of a heap.
func at(heap, page int) api.Key { return api.Key{Heap: heap, Page: page} }

// page is a mapped page.
func page(k api.Key, slot, gen int, sum uint32) api.Mapped {
	return api.Mapped{Key: k, Entry: api.Entry{Slot: slot, Gen: gen, Sum: sum}}
}

// two is a right list of two pages, for 4 slots and more.
func two() []api.Mapped {
	return []api.Mapped{page(at(1, 2), 3, 1, 9), page(at(2, 0), 0, 2, 1<<31)}
}

// several is a right list of pages of several heaps, with all fields' ends, for 65536 slots.
func several() []api.Mapped {
	return []api.Mapped{
		page(at(1, 0), 65535, lastGen, math.MaxUint32),
		page(at(1, 1), 0, 1, 0),
		page(at(1, 4095), 1, 256, 0x01020304),
		page(at(2, 0), 65534, 0x010203040506, 0x80000000),
		page(at(33, 77), 258, lastGen-1, 1),
		page(at(64, 4095), 2, 2, 255),
	}
}

// many is a right list of so many pages, for so many slots.
func many(count int) []api.Mapped {
	var l []api.Mapped
	for i := range count {
		l = append(l, page(at(1+i/100, i%100*7), count-1-i, 1+i*i, uint32(i)*2654435761))
	}
	return l
}

// ends are ints at the ends of heaps, of pages, of Gens, of slots, and of all ints.
func ends() []int {
	return []int{math.MinInt, math.MinInt + 1, -1 << 48, -1 << 32, -4096, -2, -1, 0, 1, 2, 3, 4, 63, 64, 65, 4095, 4096, 4097, 65535, 65536, 65537, math.MaxInt32, 1 << 31, math.MaxUint32, 1 << 32, 1<<32 + 1, lastGen - 1, lastGen, lastGen + 1, lastGen + 2, 1 << 62, math.MaxInt - 1, math.MaxInt}
}

// wrongKeys are keys that aren't right.
func wrongKeys() []api.Key {
	return []api.Key{{}, at(0, 1), at(0, 4095), at(-1, 2), at(65, 0), at(64, 4096), at(1, -1), at(1, 4096), at(2, math.MinInt), at(2, math.MaxInt), at(math.MinInt, 0), at(math.MaxInt, 0), at(math.MinInt, math.MinInt), at(math.MaxInt, math.MaxInt)}
}

// rightKey: is a key right?
func rightKey(k api.Key) bool {
	return k.Heap >= 1 && k.Heap <= 64 && k.Page >= 0 && k.Page <= 4095
}

// ahead: does a key come ahead of another one, in order?
func ahead(a, b api.Key) bool {
	return a.Heap < b.Heap || a.Heap == b.Heap && a.Page < b.Page
}

// number is a key's in four octets; noughts, if it isn't right.
func number(k api.Key) []byte {
	if !rightKey(k) {
		return make([]byte, 4)
	}
	return binary.LittleEndian.AppendUint32(nil, uint32(4096*k.Heap+k.Page))
}

// low are a number's low octets, the least first.
func low(n, size int) []byte {
	return binary.LittleEndian.AppendUint64(nil, uint64(n))[:size]
}

// sum is a page's, by the library's.
func sum(k api.Key, gen int, b []byte) uint32 {
	all := append(number(k), low(gen, 8)...)
	for i := range 512 {
		if i < len(b) {
			all = append(all, b[i])
		} else {
			all = append(all, 0)
		}
	}
	return crc32.ChecksumIEEE(all)
}

// right: is a list right? Each is held against each.
func right(n int, l []api.Mapped) bool {
	for i, m := range l {
		if !rightKey(m.Key) || m.Slot < 0 || m.Slot >= n || m.Gen < 1 || m.Gen > lastGen {
			return false
		}
		for _, other := range l[:i] {
			if !ahead(other.Key, m.Key) || other.Slot == m.Slot {
				return false
			}
		}
	}
	return true
}

// laid are a list's octets.
func laid(l []api.Mapped) []byte {
	b := low(len(l), 4)
	for _, m := range l {
		b = slices.Concat(b, number(m.Key), low(m.Slot, 4), low(m.Gen, 6), low(int(m.Sum), 4))
	}
	return b
}

// told is the list at the beginning of octets, and how many it has.
func told(n int, b []byte) ([]api.Mapped, int) {
	if len(b) < 4 {
		return nil, 0
	}
	size := 4 + 18*int(binary.LittleEndian.Uint32(b))
	if len(b) < size {
		return nil, 0
	}
	var l []api.Mapped
	for at := 4; at < size; at += 18 {
		whose := int(binary.LittleEndian.Uint32(b[at:]))
		var gen [8]byte
		copy(gen[:], b[at+8:at+14])
		l = append(l, page(
			api.Key{Heap: whose / 4096, Page: whose % 4096},
			int(binary.LittleEndian.Uint32(b[at+4:])),
			int(binary.LittleEndian.Uint64(gen[:])),
			binary.LittleEndian.Uint32(b[at+14:])))
	}
	if !right(n, l) {
		return nil, 0
	}
	return l, size
}

// applied is a list without some, and with some more, each put where it belongs.
func applied(l, puts []api.Mapped, gone []api.Key) []api.Mapped {
	var all []api.Mapped
	for _, m := range l {
		if !slices.Contains(gone, m.Key) {
			all = put(all, m)
		}
	}
	for _, m := range puts {
		all = put(all, m)
	}
	return all
}

// put puts a page into a list by its key, in the place of one that is there.
func put(l []api.Mapped, m api.Mapped) []api.Mapped {
	i := 0
	for i < len(l) && ahead(l[i].Key, m.Key) {
		i++
	}
	if i < len(l) && l[i].Key == m.Key {
		l[i] = m
		return l
	}
	return slices.Insert(l, i, m)
}

// steps are numbers that look like chance, the same ones each time.
type steps uint64

// below is the next one, from 0 to ahead of most.
func (s *steps) below(most int) int {
	*s = *s*6364136223846793005 + 1442695040888963407
	return int(*s >> 33 % steps(most))
}

// octets are so many of many kinds.
func (s *steps) octets(size int) []byte {
	b := make([]byte, size)
	for i := range b {
		b[i] = byte(s.below(256))
	}
	return b
}

// sums holds Sum to what it must be.
func sums(t *testing.T, k api.Key, gen int, b []byte) {
	t.Helper()
	if got, want := entry.Sum(k, gen, b), sum(k, gen, b); got != want {
		t.Fatalf("P11.1: Sum(%v, %d, %d octets): %08x, not %08x", k, gen, len(b), got, want)
	}
}

// rights holds Right to what it must be.
func rights(t *testing.T, n int, l []api.Mapped, want bool) {
	t.Helper()
	if got := entry.Right(n, l...); got != want {
		t.Fatalf("P11.1: Right(%d, %v): %v", n, l, got)
	}
}

// gets holds Get to what it must be.
func gets(t *testing.T, n int, b []byte, want []api.Mapped, size int) {
	t.Helper()
	if got, k := entry.Get(n, b); k != size || !slices.Equal(got, want) {
		t.Fatalf("P11.2: Get(%d, %x): %v, %d, not %v, %d", n, b, got, k, want, size)
	}
}

// applies holds Apply to what it must be.
func applies(t *testing.T, l, puts []api.Mapped, gone []api.Key, want []api.Mapped) {
	t.Helper()
	if got := entry.Apply(l, puts, gone); !slices.Equal(got, want) {
		t.Fatalf("P11.3: Apply(%v, %v, %v): %v, not %v", l, puts, gone, got, want)
	}
}

// alike holds all that is told of a list against the plain model, there and back.
func alike(t *testing.T, n int, l []api.Mapped) {
	t.Helper()
	rights(t, n, l, right(n, l))
	b := entry.Put(l...)
	if !bytes.Equal(b, laid(l)) {
		t.Fatalf("P11.2: Put(%v): %x, not %x", l, b, laid(l))
	}
	want, size := told(n, b)
	gets(t, n, b, want, size)
}

func TestExamples(t *testing.T) {
	if b := entry.Put(); !bytes.Equal(b, []byte{0, 0, 0, 0}) {
		t.Errorf("P11.2: Put(): %v", b)
	}
	for _, n := range ends() {
		gets(t, n, []byte{0, 0, 0, 0}, nil, 4)
		rights(t, n, nil, true)
	}
	b := entry.Put(page(at(1, 2), 258, 772, 0xcbf43926))
	want := []byte{1, 0, 0, 0, 2, 16, 0, 0, 2, 1, 0, 0, 4, 3, 0, 0, 0, 0, 0x26, 0x39, 0xf4, 0xcb}
	if !bytes.Equal(b, want) {
		t.Errorf("P11.2: Put: %v", b)
	}
}

func TestSumOfAllLengths(t *testing.T) {
	s := steps(1)
	for size := range 1100 {
		b := s.octets(size)
		sums(t, at(1, 2), 5, b)
		sums(t, at(64, 4095), lastGen, b)
	}
	sums(t, at(1, 2), 5, nil)
	for _, size := range []int{0, 1, 511, 512, 513, 4096, 70000} {
		sums(t, at(1, 2), 5, make([]byte, size))
		sums(t, at(1, 2), 5, bytes.Repeat([]byte{255}, size))
	}
}

// TestSumOfEachOctet: each of the first 512 counts, and none behind them.
func TestSumOfEachOctet(t *testing.T) {
	s := steps(2)
	b := s.octets(600)
	was := entry.Sum(at(3, 4), 7, b)
	for i := range b {
		b[i] ^= 16
		if got := entry.Sum(at(3, 4), 7, b); (got == was) != (i >= 512) {
			t.Errorf("P11.1: octet %d turned: %08x, not turned: %08x", i, got, was)
		}
		b[i] ^= 16
	}
}

// TestSumPadsShortPages: noughts stand behind them, in the spare room nothing is looked at.
func TestSumPadsShortPages(t *testing.T) {
	full := bytes.Repeat([]byte{7}, 513)
	for _, size := range []int{0, 1, 255, 511, 512} {
		want := entry.Sum(at(1, 2), 5, append(bytes.Clone(full[:size]), make([]byte, 512-size)...))
		if got := entry.Sum(at(1, 2), 5, full[:size]); got != want {
			t.Errorf("P11.1: of %d octets: %08x, not %08x", size, got, want)
		}
	}
}

// TestSumTellsKeysAndGens: by all that are at an end, right or not.
func TestSumTellsKeysAndGens(t *testing.T) {
	s := steps(3)
	b := s.octets(512)
	for _, gen := range ends() {
		sums(t, at(1, 2), gen, b)
		for _, k := range wrongKeys() {
			sums(t, k, gen, b)
		}
	}
	seen := map[uint32]int{}
	for _, heap := range []int{1, 2, 63, 64} {
		for _, p := range []int{0, 1, 2, 4095} {
			for _, gen := range []int{1, 2, lastGen} {
				sums(t, at(heap, p), gen, b)
				seen[entry.Sum(at(heap, p), gen, b)]++
			}
		}
	}
	if len(seen) != 48 {
		t.Errorf("P11.1: 48 pages have %d sums", len(seen))
	}
}

func TestRightSlots(t *testing.T) {
	for _, n := range ends() {
		for _, slot := range append(ends(), n-1, n) {
			rights(t, n, []api.Mapped{page(at(1, 2), slot, 1, 0)}, slot >= 0 && slot < n)
		}
	}
	for _, n := range []int{1, 2, 4, 10, 65536} {
		for slot, want := range map[int]bool{-1: false, 0: true, n - 1: true, n: false, n + 1: false, math.MinInt: false, math.MaxInt: false} {
			alike(t, n, []api.Mapped{page(at(1, 2), slot, 1, 0)})
			rights(t, n, []api.Mapped{page(at(1, 2), slot, 1, 0)}, want)
		}
	}
}

func TestRightGens(t *testing.T) {
	for gen, want := range map[int]bool{0: false, 1: true, 2: true, lastGen - 1: true, lastGen: true, lastGen + 1: false, -1: false, math.MinInt: false, math.MaxInt: false} {
		l := []api.Mapped{page(at(1, 2), 3, gen, 0)}
		rights(t, 4, l, want)
		alike(t, 4, l)
	}
	for _, gen := range ends() {
		alike(t, 4, []api.Mapped{page(at(1, 2), 3, gen, 0)})
	}
}

func TestRightKeys(t *testing.T) {
	for _, heap := range ends() {
		for _, p := range ends() {
			rights(t, 4, []api.Mapped{page(at(heap, p), 3, 1, 0)}, heap >= 1 && heap <= 64 && p >= 0 && p <= 4095)
		}
	}
	for _, k := range wrongKeys() {
		l := []api.Mapped{page(k, 3, 1, 0)}
		rights(t, 4, l, false)
		gets(t, 4, entry.Put(l...), nil, 0)
		for place := range 3 {
			rights(t, 8, slices.Insert(two(), place, page(k, 7, 1, 0)), false)
		}
	}
	for heap := 1; heap <= 64; heap++ {
		for _, p := range []int{0, 1, 4094, 4095} {
			alike(t, 4, []api.Mapped{page(at(heap, p), 3, 1, 0)})
			rights(t, 4, []api.Mapped{page(at(heap, p), 3, 1, 0)}, true)
		}
	}
}

// TestRightSums: any will do.
func TestRightSums(t *testing.T) {
	for _, sum := range []uint32{0, 1, math.MaxInt32, 1 << 31, math.MaxUint32} {
		alike(t, 4, []api.Mapped{page(at(1, 2), 3, 1, sum)})
		rights(t, 4, []api.Mapped{page(at(1, 2), 3, 1, sum)}, true)
	}
}

// TestRightOrder: keys that rise, that are alike, that fall; slots apart and alike.
func TestRightOrder(t *testing.T) {
	a, b, c := page(at(1, 5), 0, 1, 0), page(at(1, 6), 1, 1, 0), page(at(2, 0), 2, 1, 0)
	same := c
	same.Slot = a.Slot
	twin := a
	twin.Slot = 3
	for _, x := range []struct {
		want bool
		l    []api.Mapped
	}{
		{true, []api.Mapped{a, b, c}},
		{true, []api.Mapped{a, c}},
		{true, []api.Mapped{b, c}},
		{false, []api.Mapped{b, a}},
		{false, []api.Mapped{a, c, b}},
		{false, []api.Mapped{c, b, a}},
		{false, []api.Mapped{c, a}},
		{false, []api.Mapped{a, a}},
		{false, []api.Mapped{a, twin}},
		{false, []api.Mapped{a, b, b, c}},
		{false, []api.Mapped{a, same}},
		{false, []api.Mapped{a, b, same}},
		{true, []api.Mapped{b, same}},
	} {
		rights(t, 4, x.l, x.want)
		alike(t, 4, x.l)
		if got, n := entry.Get(4, entry.Put(x.l...)); (n > 0) != x.want || (len(got) > 0) != x.want {
			t.Errorf("P11.2: of %v: %v, %d", x.l, got, n)
		}
	}
}

// TestSmallLists: all of up to three pages of some, right and not.
func TestSmallLists(t *testing.T) {
	var some []api.Mapped
	for _, k := range []api.Key{at(1, 0), at(1, 1), at(2, 0), {}} {
		for slot := -1; slot < 3; slot++ {
			some = append(some, page(k, slot, 1+slot, 0))
		}
		some = append(some, page(k, 0, 1, 7), page(k, 1, lastGen+1, 8))
	}
	alike(t, 2, nil)
	for _, a := range some {
		alike(t, 2, []api.Mapped{a})
		for _, b := range some {
			alike(t, 2, []api.Mapped{a, b})
			for _, c := range some {
				alike(t, 3, []api.Mapped{a, b, c})
			}
		}
	}
}

func TestManyPages(t *testing.T) {
	for _, count := range []int{1, 2, 63, 64, 65, 255, 256, 257, 1000, 6400} {
		l := many(count)
		rights(t, count, l, true)
		rights(t, count-1, l, false)
		b := entry.Put(l...)
		if !bytes.Equal(b, laid(l)) {
			t.Fatalf("P11.2: octets of %d pages", count)
		}
		gets(t, count, b, l, 4+18*count)
		gets(t, count+1, b, l, 4+18*count)
		gets(t, count-1, b, nil, 0)
	}
}

// TestThereAndBack: alone, and with other octets behind.
func TestThereAndBack(t *testing.T) {
	s := steps(4)
	for _, l := range [][]api.Mapped{nil, two()[:1], two(), several(), many(300)} {
		b := entry.Put(l...)
		if len(b) != 4+18*len(l) {
			t.Fatalf("P11.2: %d pages have %d octets", len(l), len(b))
		}
		for _, behind := range []int{0, 1, 17, 18, 19, 500} {
			gets(t, 65536, append(bytes.Clone(b), s.octets(behind)...), l, len(b))
		}
		gets(t, 65536, append(bytes.Clone(b), b...), l, len(b))
		for size := range b {
			gets(t, 65536, b[:size], nil, 0)
		}
	}
}

// TestWrongCounts: a number of pages that isn't there, or not all of those that are.
func TestWrongCounts(t *testing.T) {
	l := several()
	b := entry.Put(l...)
	for count := range len(l) {
		copy(b, low(count, 4))
		gets(t, 65536, b, l[:count], 4+18*count)
	}
	for _, count := range []int{len(l) + 1, 256, 65536 + len(l), 1 << 24, math.MaxInt32, 1 << 31, math.MaxUint32 - 1, math.MaxUint32} {
		copy(b, low(count, 4))
		gets(t, 65536, b, nil, 0)
		gets(t, 65536, b[:4], nil, 0)
	}
}

// TestTurnedOctets: each one, all its bits one by one, against the model.
func TestTurnedOctets(t *testing.T) {
	for _, l := range [][]api.Mapped{nil, two(), several()} {
		b := append(entry.Put(l...), 1, 2, 3)
		for i := range b {
			for bit := range 8 {
				b[i] ^= 1 << bit
				for _, n := range []int{4, 65536, 1 << 32} {
					want, size := told(n, b)
					gets(t, n, b, want, size)
				}
				b[i] ^= 1 << bit
			}
		}
	}
}

// TestAnyOctets: of any kind, at any number of slots.
func TestAnyOctets(t *testing.T) {
	s := steps(5)
	for range 3000 {
		b := s.octets(s.below(60))
		if s.below(3) > 0 && len(b) >= 4 {
			copy(b, low(s.below(4), 4))
		}
		if s.below(3) > 0 && len(b) >= 22 {
			copy(b[4:], number(at(1+s.below(64), s.below(4096))))
			copy(b[8:], low(s.below(8), 4))
		}
		for _, n := range []int{math.MinInt, -1, 0, 1, 4, 8, 65536, 1 << 32, math.MaxInt} {
			want, size := told(n, b)
			gets(t, n, b, want, size)
		}
	}
	for _, n := range ends() {
		gets(t, n, nil, nil, 0)
		gets(t, n, []byte{}, nil, 0)
		gets(t, n, []byte{0, 0, 0}, nil, 0)
		gets(t, n, bytes.Repeat([]byte{255}, 100), nil, 0)
	}
	// Numbers below those of the first heap, and above those of the last one.
	for _, whose := range []int{0, 1, 4095, 266240, 1 << 20, math.MaxUint32} {
		b := entry.Put(page(at(1, 0), 0, 1, 0))
		copy(b[4:], low(whose, 4))
		gets(t, 4, b, nil, 0)
	}
}

// TestPutAsItStands: of lists that aren't right too, numbers as they're laid.
func TestPutAsItStands(t *testing.T) {
	for _, slot := range ends() {
		for _, gen := range ends() {
			for _, k := range append(wrongKeys(), at(1, 2)) {
				l := []api.Mapped{page(k, slot, gen, 77), page(at(1, 2), gen, slot, 78)}
				if b := entry.Put(l...); !bytes.Equal(b, laid(l)) {
					t.Fatalf("P11.2: Put(%v): %x, not %x", l, b, laid(l))
				}
			}
		}
	}
}

func TestFind(t *testing.T) {
	l := several()
	for _, m := range l {
		if e, ok := entry.Find(l, m.Key); e != m.Entry || !ok {
			t.Errorf("P11.3: Find of %v: %v, %v", m.Key, e, ok)
		}
	}
	for _, k := range append(wrongKeys(), at(1, 2), at(2, 1), at(33, 78), at(34, 77), at(64, 4094)) {
		if e, ok := entry.Find(l, k); e != (api.Entry{}) || ok {
			t.Errorf("P11.3: Find of %v: %v, %v", k, e, ok)
		}
		if e, ok := entry.Find(nil, k); e != (api.Entry{}) || ok {
			t.Errorf("P11.3: Find of %v in none: %v, %v", k, e, ok)
		}
	}
}

// TestFindTheFirst: of several with one key, in any order, right or not.
func TestFindTheFirst(t *testing.T) {
	for _, k := range append(wrongKeys(), at(1, 2)) {
		first, second := page(k, -5, 0, 1), page(k, 6, 7, 2)
		l := []api.Mapped{page(at(9, 9), 1, 1, 1), first, page(at(3, 3), 1, 1, 1), second}
		if e, ok := entry.Find(l, k); e != first.Entry || !ok {
			t.Errorf("P11.3: Find of %v: %v, %v", k, e, ok)
		}
		if e, ok := entry.Find([]api.Mapped{page(k, 0, 0, 0)}, k); e != (api.Entry{}) || !ok {
			t.Errorf("P11.3: Find of %v with the zero entry: %v, %v", k, e, ok)
		}
	}
}

func TestApply(t *testing.T) {
	a, b, c, d := page(at(1, 2), 0, 1, 1), page(at(1, 3), 1, 1, 2), page(at(2, 0), 2, 1, 3), page(at(2, 9), 3, 1, 4)
	newer, newest := page(at(1, 3), 7, 2, 5), page(at(1, 3), 6, 3, 6)
	l := []api.Mapped{a, b, d}
	applies(t, nil, nil, nil, nil)
	applies(t, l, nil, nil, l)
	applies(t, l, []api.Mapped{c}, nil, []api.Mapped{a, b, c, d})
	applies(t, nil, []api.Mapped{d, b, c, a}, nil, []api.Mapped{a, b, c, d})
	applies(t, l, nil, []api.Key{b.Key}, []api.Mapped{a, d})
	applies(t, l, nil, []api.Key{d.Key, a.Key, d.Key, c.Key}, []api.Mapped{b})
	applies(t, l, nil, []api.Key{b.Key, d.Key, a.Key}, nil)
	applies(t, l, []api.Mapped{newer}, nil, []api.Mapped{a, newer, d})
	applies(t, l, []api.Mapped{newer, newest}, nil, []api.Mapped{a, newest, d})
	applies(t, l, []api.Mapped{newest, newer}, nil, []api.Mapped{a, newer, d})
	applies(t, l, []api.Mapped{newest, c, newer}, nil, []api.Mapped{a, newer, c, d})
	applies(t, l, []api.Mapped{newer}, []api.Key{b.Key}, []api.Mapped{a, newer, d})
	applies(t, l, []api.Mapped{c}, []api.Key{c.Key}, []api.Mapped{a, b, c, d})
	applies(t, nil, nil, []api.Key{a.Key}, nil)
	applies(t, []api.Mapped{d, b, a}, nil, nil, l)
}

// TestApplyTakesAnyPages: also those that aren't right, and slots that stand twice.
func TestApplyTakesAnyPages(t *testing.T) {
	var l, puts []api.Mapped
	for i, k := range wrongKeys() {
		l = append(l, page(k, 3, i-3, 1))
		puts = append(puts, page(k, -i, math.MinInt+i, 2))
	}
	applies(t, l, nil, nil, applied(l, nil, nil))
	applies(t, l, puts, nil, applied(l, puts, nil))
	applies(t, nil, puts, wrongKeys(), applied(nil, puts, nil))
	for i, k := range wrongKeys() {
		applies(t, l, puts[:i], []api.Key{k}, applied(l, puts[:i], []api.Key{k}))
		applies(t, l, puts[i:], []api.Key{k, k}, applied(l, puts[i:], []api.Key{k}))
		applies(t, two(), nil, []api.Key{k}, two())
	}
}

// TestSmallApplies: all lists of some keys, with up to two puts, without up to two.
func TestSmallApplies(t *testing.T) {
	keys := []api.Key{at(1, 0), at(1, 1), at(2, 0)}
	var lists, puts [][]api.Mapped
	for some := range 8 {
		var l []api.Mapped
		for i, k := range keys {
			if some>>i&1 == 1 {
				l = append(l, page(k, i, 1, 1))
			}
		}
		back := slices.Clone(l)
		slices.Reverse(back)
		lists = append(lists, l, back)
	}
	gone := [][]api.Key{nil}
	puts = append(puts, nil)
	for i, k := range keys {
		gone = append(gone, []api.Key{k})
		puts = append(puts, []api.Mapped{page(k, i, 2, 2)})
		for j, other := range keys {
			gone = append(gone, []api.Key{k, other})
			puts = append(puts, []api.Mapped{page(k, i, 2, 2), page(other, j+4, 3, 3)})
		}
	}
	for _, l := range lists {
		for _, p := range puts {
			for _, g := range gone {
				applies(t, l, p, g, applied(l, p, g))
			}
		}
	}
}

func TestManyApplies(t *testing.T) {
	s := steps(6)
	wrong := wrongKeys()
	for range 2000 {
		var l, puts []api.Mapped
		var gone []api.Key
		heaps, pages := 1+s.below(4), 1+s.below(40)
		for range s.below(50) {
			k := at(1+s.below(heaps), s.below(pages))
			if s.below(20) == 0 {
				k = wrong[s.below(len(wrong))]
			}
			m := page(k, s.below(100), s.below(9), uint32(s.below(1000)))
			if _, there := entry.Find(l, k); !there && s.below(2) == 0 {
				l = append(l, m)
			}
			if s.below(3) == 0 {
				puts = append(puts, m)
			}
			if s.below(4) == 0 {
				gone = append(gone, k, at(k.Heap, k.Page/2))
			}
		}
		applies(t, l, puts, gone, applied(l, puts, gone))
	}
}

// roomy are octets with spare room behind them, filled with a mark.
func roomy(b []byte) []byte {
	r := bytes.Repeat([]byte{0xa5}, len(b)+600)
	copy(r, b)
	return r[:len(b)]
}

// TestHandedInIsntChanged: nor is its spare room.
func TestHandedInIsntChanged(t *testing.T) {
	was := several()
	for n := range len(was) {
		l, puts := slices.Clone(was), slices.Clone(was)
		gone := []api.Key{was[1].Key, was[0].Key, at(7, 7), was[2].Key}
		entry.Right(65536, l[:n]...)
		entry.Put(l[:n]...)
		entry.Find(l[:n], was[n].Key)
		entry.Apply(l[:n], puts[:2], gone[:1])
		entry.Apply(l[:n], puts[n:n], gone[:3])
		entry.Apply(l[n:], puts[:n], gone[:0])
		if !slices.Equal(l, was) || !slices.Equal(puts, was) || !slices.Equal(gone, []api.Key{was[1].Key, was[0].Key, at(7, 7), was[2].Key}) {
			t.Fatalf("P11.4: what was handed in is changed: %v, %v, %v", l, puts, gone)
		}
	}
	for _, size := range []int{0, 1, 500, 511, 512, 513} {
		s := steps(7)
		b := s.octets(size)
		in := roomy(b)
		entry.Sum(at(1, 2), 3, in)
		entry.Get(65536, in)
		if !bytes.Equal(in[:cap(in)], roomy(b)[:cap(in)]) {
			t.Errorf("P11.4: %d octets that were handed in are changed", size)
		}
	}
	b := entry.Put(was...)
	in := roomy(b)
	entry.Get(65536, in)
	entry.Get(1, in)
	if !bytes.Equal(in[:cap(in)], roomy(b)[:cap(in)]) {
		t.Error("P11.4: a list's octets that were handed in are changed")
	}
}

// spoil writes over a list, its spare room too.
func spoil(l []api.Mapped) {
	for i := range l[:cap(l)] {
		l[:cap(l)][i] = page(at(9, 9), 9, 9, 9)
	}
}

// spoilOctets writes over octets, their spare room too.
func spoilOctets(b []byte) {
	for i := range b[:cap(b)] {
		b[:cap(b)][i] = 0x99
	}
}

// TestNothingIsKept: what was handed in is changed behind the call.
func TestNothingIsKept(t *testing.T) {
	was := several()
	l, puts, gone := slices.Clone(was[:4]), slices.Clone(was[3:]), []api.Key{was[0].Key}
	b := entry.Put(l...)
	list, n := entry.Get(65536, b)
	all := entry.Apply(l, puts, gone)
	alone := entry.Apply(l, nil, nil)
	more := entry.Apply(nil, puts, nil)
	octets := bytes.Clone(b)
	spoil(l)
	spoil(puts)
	gone[0] = was[1].Key
	if !slices.Equal(all, was[1:]) || !slices.Equal(alone, was[:4]) || !slices.Equal(more, was[3:]) || !bytes.Equal(b, octets) {
		t.Errorf("P11.4: answers changed with what was handed in: %v, %v, %v, %x", all, alone, more, b)
	}
	spoilOctets(b)
	if n != 4+18*4 || !slices.Equal(list, was[:4]) {
		t.Errorf("P11.4: Get's answer changed with its octets: %v", list)
	}
	alike(t, 65536, was)
}

// TestAnswersAreNewMemory: what was answered is changed; neither what was handed in is, nor another answer.
func TestAnswersAreNewMemory(t *testing.T) {
	for _, was := range [][]api.Mapped{nil, two(), several()} {
		l := slices.Clone(was)
		b := entry.Put(l...)
		octets := bytes.Clone(b)
		spoil(entry.Apply(l, nil, nil))
		spoil(entry.Apply(nil, l, nil))
		spoil(entry.Apply(l, l, []api.Key{at(9, 9)}))
		list, _ := entry.Get(65536, b)
		spoil(list)
		spoilOctets(entry.Put(l...))
		if !slices.Equal(l, was) || !bytes.Equal(b, octets) {
			t.Errorf("P11.4: %v changed to %v, %x to %x with an answer", was, l, octets, b)
		}
		alike(t, 65536, was)
		applies(t, was, nil, nil, was)
	}
}

// TestEveryCallEnds: a panic at any of these fails it.
func TestEveryCallEnds(t *testing.T) {
	for _, x := range ends() {
		for _, y := range ends() {
			m := page(at(x, y), y, x, uint32(x))
			l := []api.Mapped{m, page(at(1, 2), x, y, 0), m, page(at(y, x), x, x, 1)}
			entry.Sum(m.Key, y, nil)
			rights(t, x, l, false)
			alike(t, y, l[:1])
			entry.Get(x, entry.Put(l...))
			entry.Find(l, m.Key)
			entry.Apply(l, l, []api.Key{m.Key, m.Key})
			entry.Apply(l, nil, nil)
		}
	}
	entry.Sum(api.Key{}, 0, nil)
	entry.Find(nil, api.Key{})
	entry.Apply(nil, nil, nil)
}
