package key_test

import (
	"math"
	"slices"
	"testing"

	"mothball/api"
	"mothball/key"
)

// at is the key of a page of a heap.
func at(heap, page int) api.Key { return api.Key{Heap: heap, Page: page} }

// row are the keys of a row of pages.
func row(heap, page, n int) []api.Key {
	var list []api.Key
	for i := range n {
		list = append(list, at(heap, page+i))
	}
	return list
}

// run is a row of pages that's told.
func run(heap, page, n int) api.Run { return api.Run{Key: at(heap, page), N: n} }

// rightOnes are all keys that are right, in order.
func rightOnes() []api.Key {
	var all []api.Key
	for heap := 1; heap <= 64; heap++ {
		all = append(all, row(heap, 0, 4096)...)
	}
	return all
}

// ends are ints at the ends of heaps, of pages, of numbers, and of all ints, rising.
func ends() []int {
	return []int{math.MinInt, math.MinInt + 1, -1 << 52, -1 << 32, -1 << 31, -4097, -4096, -4095, -65, -64, -2, -1, 0, 1, 2, 63, 64, 65, 128, 4094, 4095, 4096, 4097, 8191, 8192, 65535, 65536, 266238, 266239, 266240, 1 << 31, 1 << 32, 1<<32 + 1, 1 << 52, 1<<52 + 1, 1 << 62, math.MaxInt - 1, math.MaxInt}
}

// endKeys are keys of all those, in order; most of them aren't right.
func endKeys() []api.Key {
	var all []api.Key
	for _, heap := range ends() {
		for _, page := range ends() {
			all = append(all, at(heap, page))
		}
	}
	return all
}

// ahead: does a key come ahead of another one, in order?
func ahead(a, b api.Key) bool {
	if a.Heap != b.Heap {
		return a.Heap < b.Heap
	}
	return a.Page < b.Page
}

// sorted are keys in order, each once, as plainly as can be: each is put where it belongs.
func sorted(ks []api.Key) []api.Key {
	var list []api.Key
	for _, k := range ks {
		i := 0
		for i < len(list) && ahead(list[i], k) {
			i++
		}
		if i == len(list) || list[i] != k {
			list = slices.Insert(list, i, k)
		}
	}
	return list
}

// times is how often a key is among some.
func times(ks []api.Key, k api.Key) int {
	n := 0
	for _, other := range ks {
		if other == k {
			n++
		}
	}
	return n
}

// without are keys but some, each held against each.
func without(ks, gone []api.Key) []api.Key {
	var list []api.Key
	for _, k := range ks {
		if times(gone, k) == 0 {
			list = append(list, k)
		}
	}
	return list
}

// runs are the longest rows: each begins where the page ahead isn't there, and goes as far as the pages do.
func runs(ks []api.Key) []api.Run {
	var list []api.Run
	for _, k := range sorted(ks) {
		if k.Page > math.MinInt && times(ks, at(k.Heap, k.Page-1)) > 0 {
			continue
		}
		n := 1
		for k.Page <= math.MaxInt-n && times(ks, at(k.Heap, k.Page+n)) > 0 {
			n++
		}
		list = append(list, api.Run{Key: k, N: n})
	}
	return list
}

// steps are numbers that look like chance, the same ones each time.
type steps uint64

// below is the next one, from 0 to ahead of most.
func (s *steps) below(most int) int {
	*s = *s*6364136223846793005 + 1442695040888963407
	return int(*s >> 33 % steps(most))
}

// shuffled are keys in another order.
func (s *steps) shuffled(ks []api.Key) []api.Key {
	list := slices.Clone(ks)
	for i := range list {
		j := s.below(i + 1)
		list[i], list[j] = list[j], list[i]
	}
	return list
}

// sorts holds Sort to what it must be.
func sorts(t *testing.T, ks, want []api.Key) {
	t.Helper()
	if got := key.Sort(ks...); !slices.Equal(got, want) {
		t.Fatalf("P10.2: Sort(%v): %v, not %v", ks, got, want)
	}
}

// counts holds Count to what is there.
func counts(t *testing.T, ks []api.Key) {
	t.Helper()
	got := key.Count(ks...)
	if len(got) != len(sorted(ks)) {
		t.Fatalf("P10.2: Count(%v): %v", ks, got)
	}
	for _, k := range ks {
		if got[k] != times(ks, k) {
			t.Fatalf("P10.2: Count(%v): %v", ks, got)
		}
	}
}

// leaves holds Without to what it must be.
func leaves(t *testing.T, ks, gone, want []api.Key) {
	t.Helper()
	if got := key.Without(ks, gone...); !slices.Equal(got, want) {
		t.Fatalf("P10.2: Without(%v, %v): %v, not %v", ks, gone, got, want)
	}
}

// rows holds Runs to what they must be.
func rows(t *testing.T, ks []api.Key, want ...api.Run) {
	t.Helper()
	if got := key.Runs(ks...); !slices.Equal(got, want) {
		t.Fatalf("P10.3: Runs(%v): %v, not %v", ks, got, want)
	}
}

// alike holds all that is told of keys against the plain model.
func alike(t *testing.T, ks []api.Key) {
	t.Helper()
	sorts(t, ks, sorted(ks))
	counts(t, ks)
	rows(t, ks, runs(ks)...)
}

func TestExamples(t *testing.T) {
	if n := key.Number(at(1, 2)); n != 4098 {
		t.Errorf("P10.1: Number: %d", n)
	}
	rows(t, []api.Key{at(1, 3), at(1, 2), at(2, 4)}, run(1, 2, 2), run(2, 4, 1))
}

// TestRightOnes: all keys that are right, by their numbers, which rise by one.
func TestRightOnes(t *testing.T) {
	n := 4096
	for _, k := range rightOnes() {
		if !key.Right(k) || key.Number(k) != n {
			t.Fatalf("P10.1: %v: %v, %d, not %d", k, key.Right(k), key.Number(k), n)
		}
		if got, ok := key.Of(n); got != k || !ok {
			t.Fatalf("P10.1: Of(%d): %v, %v", n, got, ok)
		}
		n++
	}
	if n != 266240 {
		t.Fatalf("P10.1: numbers end at %d", n)
	}
}

func TestEnds(t *testing.T) {
	for _, k := range append(endKeys(), at(1, -1), at(1, 4096), at(64, -1), at(64, 4096), at(0, 4095), at(65, 0), api.Key{}) {
		right := 1 <= k.Heap && k.Heap <= 64 && 0 <= k.Page && k.Page <= 4095
		n := 0
		if right {
			n = 4096*k.Heap + k.Page
		}
		if key.Right(k) != right || key.Number(k) != n {
			t.Errorf("P10.1: %v: %v, %d, not %d", k, key.Right(k), key.Number(k), n)
		}
	}
}

// TestNumbersOfNone: below what keys have, and above it, and what is like a right one in its low bits.
func TestNumbersOfNone(t *testing.T) {
	var none []int
	for n := range 4096 {
		none = append(none, n, -1-n, 266240+n)
	}
	for bit := 19; bit < 63; bit++ {
		none = append(none, 1<<bit, 1<<bit+4098, -1<<bit, -1<<bit+4098, 1<<bit-1, 1<<bit+266239)
	}
	none = append(none, math.MinInt, math.MinInt+1, math.MinInt+4096, math.MinInt+266239, -4096, -4098, -266239, -266240, math.MaxInt-4096, math.MaxInt-1, math.MaxInt)
	for _, n := range none {
		if k, ok := key.Of(n); k != (api.Key{}) || ok {
			t.Errorf("P10.1: Of(%d): %v, %v", n, k, ok)
		}
	}
	for _, n := range []int{4096, 4097, 8191, 8192, 266238, 266239} {
		if k, ok := key.Of(n); !ok || k != at(n/4096, n%4096) {
			t.Errorf("P10.1: Of(%d): %v, %v", n, k, ok)
		}
	}
}

func TestNone(t *testing.T) {
	for _, none := range [][]api.Key{nil, {}} {
		sorts(t, none, nil)
		rows(t, none)
		leaves(t, none, none, nil)
		leaves(t, none, []api.Key{at(1, 2)}, nil)
		leaves(t, []api.Key{at(1, 2), at(1, 1)}, none, []api.Key{at(1, 2), at(1, 1)})
		if m := key.Count(none...); len(m) != 0 {
			t.Errorf("P10.2: Count of none: %v", m)
		}
	}
}

// TestOne: each key alone, those that aren't right too, once and more often.
func TestOne(t *testing.T) {
	for _, k := range append(endKeys(), rightOnes()[:300]...) {
		for n := 1; n <= 3; n++ {
			ks := slices.Repeat([]api.Key{k}, n)
			sorts(t, ks, []api.Key{k})
			if m := key.Count(ks...); len(m) != 1 || m[k] != n {
				t.Fatalf("P10.2: Count(%v): %v", ks, m)
			}
			rows(t, ks, run(k.Heap, k.Page, 1))
			leaves(t, ks, []api.Key{k}, nil)
			leaves(t, ks, []api.Key{at(k.Page, k.Heap)}, without(ks, []api.Key{at(k.Page, k.Heap)}))
			leaves(t, ks, nil, ks)
		}
	}
}

// someKeys are few keys, some of which aren't right: small lists of them are tried all.
func someKeys() []api.Key {
	return []api.Key{at(2, 0), at(1, 4095), at(1, 4094), at(0, 0), at(2, 1), at(1, 4096)}
}

// lists are all lists of so many of someKeys.
func lists(n int) [][]api.Key {
	all := [][]api.Key{nil}
	for range n {
		var more [][]api.Key
		for _, l := range all {
			for _, k := range someKeys() {
				more = append(more, append(l[:len(l):len(l)], k))
			}
		}
		all = more
	}
	return all
}

// TestSmallLists: all lists of up to five keys, in any order, some of them more than once.
func TestSmallLists(t *testing.T) {
	for n := range 6 {
		for _, ks := range lists(n) {
			alike(t, ks)
		}
	}
}

func TestWithoutOfSmallLists(t *testing.T) {
	for n := range 5 {
		for _, ks := range lists(n) {
			for m := range 3 {
				for _, gone := range lists(m) {
					leaves(t, ks, gone, without(ks, gone))
				}
			}
		}
	}
}

func TestSort(t *testing.T) {
	sorts(t, []api.Key{at(2, 1), at(1, 9), at(2, 1), at(1, 10), at(1, 9), at(2, 0)}, []api.Key{at(1, 9), at(1, 10), at(2, 0), at(2, 1)})
	// By the heap first, however far the pages are; by the page alone of one heap.
	sorts(t, []api.Key{at(2, 0), at(1, 4095), at(10, 3), at(9, 4), at(64, 0), at(1, 0)}, []api.Key{at(1, 0), at(1, 4095), at(2, 0), at(9, 4), at(10, 3), at(64, 0)})
	// A difference of ints may be none that an int has.
	sorts(t, []api.Key{at(math.MaxInt, 0), at(math.MinInt, 0), at(1, math.MaxInt), at(1, math.MinInt), at(1, -2), at(-2, 5)}, []api.Key{at(math.MinInt, 0), at(-2, 5), at(1, math.MinInt), at(1, -2), at(1, math.MaxInt), at(math.MaxInt, 0)})
	s := steps(10)
	for _, all := range [][]api.Key{endKeys(), rightOnes()} {
		sorts(t, all, all)
		sorts(t, s.shuffled(all), all)
		sorts(t, s.shuffled(slices.Concat(all, all[:100], all[1000:1200], all[:50])), all)
		back := slices.Clone(all)
		slices.Reverse(back)
		sorts(t, back, all)
	}
}

func TestCount(t *testing.T) {
	m := key.Count(at(1, 2), at(2, 1), at(1, 2), at(0, -1), at(1, 2), at(0, -1))
	if len(m) != 3 || m[at(1, 2)] != 3 || m[at(2, 1)] != 1 || m[at(0, -1)] != 2 {
		t.Errorf("P10.2: Count: %v", m)
	}
	if _, ok := m[at(1, 1)]; ok {
		t.Error("P10.2: Count tells of a key that isn't there")
	}
	// The k-th is there k times.
	s := steps(2)
	all := append(endKeys()[:200], rightOnes()[:200]...)
	var ks []api.Key
	for i, k := range all {
		ks = append(ks, slices.Repeat([]api.Key{k}, i+1)...)
	}
	m = key.Count(s.shuffled(ks)...)
	for i, k := range all {
		if m[k] != i+1 {
			t.Fatalf("P10.2: Count of %v: %d, not %d", k, m[k], i+1)
		}
	}
	if len(m) != len(all) {
		t.Errorf("P10.2: Count tells of %d keys, not %d", len(m), len(all))
	}
}

func TestWithout(t *testing.T) {
	a, b, c, d := at(1, 5), at(1, 6), at(2, 5), at(0, math.MinInt)
	// As they stand there: in no order, and as often.
	leaves(t, []api.Key{c, a, d, a, b, c}, []api.Key{b}, []api.Key{c, a, d, a, c})
	leaves(t, []api.Key{c, a, d, a, b, c}, []api.Key{a, a, a, a}, []api.Key{c, d, b, c})
	leaves(t, []api.Key{c, a, d, a, b, c}, []api.Key{d, c}, []api.Key{a, a, b})
	leaves(t, []api.Key{c, a, d, a, b, c}, []api.Key{d, c, b, a}, nil)
	leaves(t, []api.Key{c, a, d, a, b, c}, []api.Key{c, a, d, a, b, c}, nil)
	// None of them are gone: those that aren't there, of the same heap or the same page too.
	leaves(t, []api.Key{c, a, c}, []api.Key{b, d, at(2, 6), at(5, 1), {}}, []api.Key{c, a, c})
	s := steps(77)
	for _, all := range [][]api.Key{endKeys(), rightOnes()} {
		ks := s.shuffled(all)
		leaves(t, ks, nil, ks)
		leaves(t, ks, s.shuffled(ks), nil)
		leaves(t, ks, s.shuffled(ks[1:]), ks[:1])
		leaves(t, ks, s.shuffled(ks[:len(ks)-1]), ks[len(ks)-1:])
		leaves(t, ks, s.shuffled(ks[100:900]), slices.Concat(ks[:100], ks[900:]))
	}
}

// TestRunsOfSmallHeaps: all choices of pages of two heaps, in any order.
func TestRunsOfSmallHeaps(t *testing.T) {
	s := steps(6)
	pages := append(row(1, 4089, 7), row(2, 0, 6)...)
	for chosen := range 1 << len(pages) {
		var ks []api.Key
		for i, k := range pages {
			if chosen>>i&1 == 1 {
				ks = append(ks, k)
			}
		}
		rows(t, s.shuffled(ks), runs(ks)...)
	}
}

func TestRuns(t *testing.T) {
	rows(t, row(3, 7, 1), run(3, 7, 1))
	rows(t, row(3, 7, 5), run(3, 7, 5))
	rows(t, []api.Key{at(1, 5), at(1, 3), at(1, 4), at(1, 4), at(1, 5), at(1, 3)}, run(1, 3, 3))
	rows(t, []api.Key{at(1, 0), at(1, 2), at(1, 4)}, run(1, 0, 1), run(1, 2, 1), run(1, 4, 1))
	// The same pages of two heaps, and pages of one behind those of the other.
	rows(t, slices.Concat(row(2, 3, 2), row(1, 3, 2)), run(1, 3, 2), run(2, 3, 2))
	rows(t, slices.Concat(row(2, 5, 2), row(1, 3, 2)), run(1, 3, 2), run(2, 5, 2))
	// The last page of a heap, and the first of the next: their numbers follow each other, they don't.
	rows(t, []api.Key{at(2, 0), at(1, 4095)}, run(1, 4095, 1), run(2, 0, 1))
	rows(t, slices.Concat(row(2, 0, 3), row(1, 4093, 3)), run(1, 4093, 3), run(2, 0, 3))
	// All there are.
	var want []api.Run
	for heap := 1; heap <= 64; heap++ {
		want = append(want, run(heap, 0, 4096))
	}
	s := steps(31)
	rows(t, s.shuffled(rightOnes()), want...)
}

// TestRunsOfWrongOnes: keys that aren't right are keys too. Behind the greatest int there is none.
func TestRunsOfWrongOnes(t *testing.T) {
	rows(t, []api.Key{at(1, 0), at(1, -1), at(1, 1)}, run(1, -1, 3))
	rows(t, []api.Key{at(1, 4096), at(1, 4095)}, run(1, 4095, 2))
	rows(t, []api.Key{at(0, 1), at(0, 0), at(65, 0)}, run(0, 0, 2), run(65, 0, 1))
	rows(t, []api.Key{at(1, math.MaxInt), at(1, math.MinInt)}, run(1, math.MinInt, 1), run(1, math.MaxInt, 1))
	rows(t, []api.Key{at(1, math.MaxInt), at(2, math.MinInt)}, run(1, math.MaxInt, 1), run(2, math.MinInt, 1))
	rows(t, []api.Key{at(1, math.MaxInt), at(2, math.MinInt), at(1, math.MaxInt-1), at(1, math.MinInt), at(2, math.MinInt+1)}, run(1, math.MinInt, 1), run(1, math.MaxInt-1, 2), run(2, math.MinInt, 2))
	rows(t, []api.Key{at(math.MaxInt, 3), at(math.MinInt, 3), at(math.MinInt, 4), at(math.MaxInt, 2)}, run(math.MinInt, 3, 2), run(math.MaxInt, 2, 2))
	s := steps(5)
	for _, heap := range ends() {
		var ks []api.Key
		for _, page := range ends() {
			ks = append(ks, at(heap, page), at(1, page))
		}
		alike(t, s.shuffled(ks))
	}
}

// TestManyKeys: lists of all kinds against the model.
func TestManyKeys(t *testing.T) {
	s := steps(1234)
	ints := ends()
	for range 2000 {
		var ks, gone []api.Key
		heaps, pages := 1+s.below(4), 1+s.below(60)
		for range s.below(60) {
			k := at(1+s.below(heaps), s.below(pages))
			switch s.below(20) {
			case 0:
				k.Page = ints[s.below(len(ints))]
			case 1:
				k.Heap = ints[s.below(len(ints))]
			}
			ks = append(ks, k)
			if s.below(3) == 0 {
				gone = append(gone, k, at(k.Heap, k.Page/2))
			}
		}
		alike(t, ks)
		leaves(t, ks, gone, without(ks, gone))
		leaves(t, gone, ks, without(gone, ks))
	}
}

// TestHandedInIsntChanged: nor is its spare room.
func TestHandedInIsntChanged(t *testing.T) {
	was := []api.Key{at(2, 1), at(1, 9), at(2, 1), at(0, 0), at(1, 8), at(7, 7), at(6, 6), at(5, 5)}
	ks, gone := slices.Clone(was), slices.Clone(was)
	for n := range len(was) {
		key.Sort(ks[:n]...)
		key.Count(ks[:n]...)
		key.Runs(ks[:n]...)
		for m := range len(was) {
			key.Without(ks[:n], gone[:m]...)
			key.Without(ks[:n], ks[m:]...)
		}
		key.Without(ks[:n])
	}
	if !slices.Equal(ks, was) || !slices.Equal(gone, was) {
		t.Errorf("P10.4: what was handed in is changed: %v, %v", ks, gone)
	}
}

// spoil writes over a list, its spare room too.
func spoil(list []api.Key) {
	for i := range list[:cap(list)] {
		list[:cap(list)][i] = at(9, 9)
	}
}

// TestNothingIsKept: what was handed in is changed behind the call.
func TestNothingIsKept(t *testing.T) {
	for _, was := range [][]api.Key{{at(1, 2)}, {at(1, 2), at(1, 3)}, {at(1, 3), at(2, 0), at(1, 2), at(1, 2)}} {
		ks, gone := slices.Clone(was), []api.Key{at(8, 8)}
		list, m, left, told := key.Sort(ks...), key.Count(ks...), key.Without(ks, gone...), key.Runs(ks...)
		all := key.Without(ks)
		spoil(ks)
		spoil(gone)
		if !slices.Equal(list, sorted(was)) || !slices.Equal(left, was) || !slices.Equal(all, was) || !slices.Equal(told, runs(was)) {
			t.Errorf("P10.4: answers changed with what was handed in: %v, %v, %v, %v", list, left, all, told)
		}
		for _, k := range was {
			if m[k] != times(was, k) || len(m) != len(sorted(was)) {
				t.Errorf("P10.4: Count changed with what was handed in: %v", m)
			}
		}
		alike(t, was)
		leaves(t, was, nil, was)
	}
}

// TestAnswersAreNewMemory: what was answered is changed; neither what was handed in is, nor another answer.
func TestAnswersAreNewMemory(t *testing.T) {
	for _, was := range [][]api.Key{nil, {at(1, 2)}, {at(1, 2), at(1, 3)}, {at(1, 3), at(2, 0), at(1, 2), at(1, 2)}} {
		ks := slices.Clone(was)
		spoil(key.Sort(ks...))
		spoil(key.Without(ks))
		spoil(key.Without(ks, at(8, 8)))
		spoil(key.Without(ks, ks...))
		told := key.Runs(ks...)
		for i := range told[:cap(told)] {
			told[:cap(told)][i] = run(9, 9, 9)
		}
		m := key.Count(ks...)
		m[at(9, 9)] = 7
		m[at(1, 2)] = 7
		if !slices.Equal(ks, was) {
			t.Errorf("P10.4: %v changed to %v with an answer", was, ks)
		}
		alike(t, was)
		leaves(t, was, nil, was)
		leaves(t, was, []api.Key{at(1, 2)}, without(was, []api.Key{at(1, 2)}))
	}
}

// TestEveryCallEnds: a panic at any of these fails it.
func TestEveryCallEnds(t *testing.T) {
	for _, n := range ends() {
		key.Of(n)
		key.Of(-n)
	}
	all := endKeys()
	for _, k := range all {
		key.Right(k)
		key.Number(k)
		ks := []api.Key{k, at(1, 2), k, at(1, 3), at(k.Page, k.Heap)}
		alike(t, ks)
		leaves(t, ks, ks[3:], without(ks, ks[3:]))
		leaves(t, ks, ks[:1], without(ks, ks[:1]))
	}
	alike(t, all)
}
