package overlay_test

import (
	"math"
	"slices"
	"testing"

	"mothball/api"
	"mothball/overlay"
)

const lastGen = 1<<48 - 1

// at is the key of a page of a heap.
func at(heap, page int) api.Key { return api.Key{Heap: heap, Page: page} }

// page is a mapped page.
func page(k api.Key, slot, gen int, sum uint32) api.Mapped {
	return api.Mapped{Key: k, Entry: api.Entry{Slot: slot, Gen: gen, Sum: sum}}
}

// rightKey: is a key right?
func rightKey(k api.Key) bool {
	return k.Heap >= 1 && k.Heap <= 64 && k.Page >= 0 && k.Page <= 4095
}

// ahead: does a key come ahead of another one, in order?
func ahead(a, b api.Key) bool {
	return a.Heap < b.Heap || a.Heap == b.Heap && a.Page < b.Page
}

// find is where a key's page stands in a list; -1: nowhere.
func find(l []api.Mapped, k api.Key) int {
	return slices.IndexFunc(l, func(m api.Mapped) bool { return m.Key == k })
}

// put is a list by rising keys with one page more, whose key it hasn't.
func put(l []api.Mapped, p api.Mapped) []api.Mapped {
	i := 0
	for i < len(l) && ahead(l[i].Key, p.Key) {
		i++
	}
	return slices.Insert(l, i, p)
}

// both are two lists' pages, by rising keys.
func both(l, other []api.Mapped) []api.Mapped {
	all := slices.Clone(l)
	for _, p := range other {
		all = put(all, p)
	}
	return all
}

// places are a list's slots, rising.
func places(l []api.Mapped) []int {
	var all []int
	for _, p := range l {
		all = append(all, p.Slot)
	}
	slices.Sort(all)
	return all
}

// model is an overlay as plainly as can be: three lists by rising keys.
type model struct {
	n                int
	base, was, fresh []api.Mapped
}

// taken: of each slot, is it of one of the entries?
func (m *model) taken() []bool {
	is := make([]bool, m.n)
	for _, slot := range slices.Concat(places(m.base), places(m.was), places(m.fresh)) {
		is[slot] = true
	}
	return is
}

func (m *model) free() int { return m.n - len(m.base) - len(m.was) - len(m.fresh) }

// take is the slot that a board takes: the least of the first of those clusters that have the fewest free ones, but one at least; -1: none.
func (m *model) take() int {
	is := m.taken()
	best, fewest := -1, 65
	for c := 0; c < m.n; c += 64 {
		free, least := 0, -1
		for slot := min(c+64, m.n) - 1; slot >= c; slot-- {
			if !is[slot] {
				free++
				least = slot
			}
		}
		if free > 0 && free < fewest {
			best, fewest = least, free
		}
	}
	return best
}

// retire lays a key's page in base, if it has one, to what was.
func (m *model) retire(k api.Key) bool {
	i := find(m.base, k)
	if i < 0 {
		return false
	}
	m.was = put(m.was, m.base[i])
	m.base = slices.Delete(m.base, i, i+1)
	return true
}

func (m *model) get(k api.Key) (api.Entry, bool) {
	for _, l := range [][]api.Mapped{m.fresh, m.base} {
		if i := find(l, k); i >= 0 {
			return l[i].Entry, true
		}
	}
	return api.Entry{}, false
}

func (m *model) put(k api.Key) (api.Entry, api.Errno) {
	if !rightKey(k) {
		return api.Entry{}, api.ErrArg
	}
	if i := find(m.fresh, k); i >= 0 {
		m.fresh[i].Gen++
		m.fresh[i].Sum = 0
		return m.fresh[i].Entry, api.OK
	}
	slot := m.take()
	if slot < 0 {
		return api.Entry{}, api.ErrSpace
	}
	m.retire(k)
	gen := 1
	if i := find(m.was, k); i >= 0 {
		gen = m.was[i].Gen + 1
	}
	p := page(k, slot, gen, 0)
	m.fresh = put(m.fresh, p)
	return p.Entry, api.OK
}

func (m *model) sum(k api.Key, sum uint32) api.Errno {
	i := find(m.fresh, k)
	if i < 0 {
		return api.ErrArg
	}
	m.fresh[i].Sum = sum
	return api.OK
}

func (m *model) drop(k api.Key) bool {
	had := m.retire(k)
	if i := find(m.fresh, k); i >= 0 {
		m.fresh = slices.Delete(m.fresh, i, i+1)
		had = true
	}
	return had
}

func (m *model) commit() {
	m.base = m.all()
	m.was, m.fresh = nil, nil
}

// gone are the keys of was that aren't in fresh.
func (m *model) gone() []api.Key {
	var ks []api.Key
	for _, p := range m.was {
		if find(m.fresh, p.Key) < 0 {
			ks = append(ks, p.Key)
		}
	}
	return ks
}

// all are base and fresh together.
func (m *model) all() []api.Mapped { return both(m.base, m.fresh) }

// keysOf are the keys of a heap's pages in a list.
func keysOf(l []api.Mapped, heap int) []api.Key {
	var ks []api.Key
	for _, p := range l {
		if p.Heap == heap {
			ks = append(ks, p.Key)
		}
	}
	return ks
}

// twin is an overlay, and the model that it is held against.
type twin struct {
	t *testing.T
	o *overlay.Map
	m *model
	// The slots that the last Commit, or New, made those of committed pages.
	committed []int
}

func start(t *testing.T, n int, committed ...api.Mapped) *twin {
	t.Helper()
	o, err := overlay.New(n, committed...)
	if o == nil || err != api.OK {
		t.Fatalf("P12.1: New(%d, %v): %v", n, committed, err)
	}
	return &twin{t: t, o: o, m: &model{n: n, base: slices.Clone(committed)}, committed: places(committed)}
}

func (w *twin) get(k api.Key) {
	w.t.Helper()
	got, ok := w.o.Get(k)
	want, is := w.m.get(k)
	if got != want || ok != is {
		w.t.Fatalf("P12.1: Get(%v): %v, %v; not %v, %v", k, got, ok, want, is)
	}
}

func (w *twin) put(k api.Key) api.Entry {
	w.t.Helper()
	got, err := w.o.Put(k)
	want, wantErr := w.m.put(k)
	if got != want || err != wantErr {
		w.t.Fatalf("P12.2: Put(%v): %v, %v; not %v, %v", k, got, err, want, wantErr)
	}
	if err == api.OK && slices.Contains(w.committed, got.Slot) {
		w.t.Fatalf("P12.2: Put(%v): slot %d is of a committed page", k, got.Slot)
	}
	return got
}

func (w *twin) sum(k api.Key, sum uint32) {
	w.t.Helper()
	if got, want := w.o.Sum(k, sum), w.m.sum(k, sum); got != want {
		w.t.Fatalf("P12.2: Sum(%v, %d): %v, not %v", k, sum, got, want)
	}
}

func (w *twin) drop(k api.Key) {
	w.t.Helper()
	if got, want := w.o.Drop(k), w.m.drop(k); got != want {
		w.t.Fatalf("P12.2: Drop(%v): %v, not %v", k, got, want)
	}
}

func (w *twin) commit() {
	w.o.Commit()
	w.m.commit()
	w.committed = places(w.m.base)
}

// alike holds all that an overlay tells against the model.
func (w *twin) alike() {
	w.t.Helper()
	fresh, gone := w.o.Diff()
	if !slices.Equal(fresh, w.m.fresh) || !slices.Equal(gone, w.m.gone()) {
		w.t.Fatalf("P12.3: Diff: %v, %v; not %v, %v", fresh, gone, w.m.fresh, w.m.gone())
	}
	if got, want := w.o.Committed(), both(w.m.base, w.m.was); !slices.Equal(got, want) {
		w.t.Fatalf("P12.3: Committed: %v, not %v", got, want)
	}
	all := w.m.all()
	if got := w.o.All(); !slices.Equal(got, all) {
		w.t.Fatalf("P12.3: All: %v, not %v", got, all)
	}
	for heap := -1; heap <= 66; heap++ {
		if got, want := w.o.Keys(heap), keysOf(all, heap); !slices.Equal(got, want) {
			w.t.Fatalf("P12.3: Keys(%d): %v, not %v", heap, got, want)
		}
	}
	for _, p := range slices.Concat(w.m.base, w.m.was, w.m.fresh) {
		w.get(p.Key)
	}
	w.parted()
}

// parted holds the slots of each part, and the free ones: none is of two, and they are all there are.
func (w *twin) parted() {
	w.t.Helper()
	base, fresh, was := w.o.Parts()
	if !slices.Equal(base, places(w.m.base)) || !slices.Equal(fresh, places(w.m.fresh)) || !slices.Equal(was, places(w.m.was)) {
		w.t.Fatalf("P12.4: Parts: %v, %v, %v; not of %v", base, fresh, was, w.m)
	}
	times := make([]int, w.m.n)
	all := slices.Concat(base, fresh, was)
	for _, slot := range all {
		times[slot]++
		if times[slot] > 1 {
			w.t.Fatalf("P12.4: slot %d is of two: %v, %v, %v", slot, base, fresh, was)
		}
	}
	if free := w.o.Free(); free != w.m.n-len(all) || free != w.m.free() {
		w.t.Fatalf("P12.4: Free: %d, beside %d of %d", free, len(all), w.m.n)
	}
	// What the last Commit committed stays till the next one.
	if !slices.Equal(places(slices.Concat(w.m.base, w.m.was)), w.committed) {
		w.t.Fatalf("P12.4: %v are of committed pages, not %v", places(slices.Concat(w.m.base, w.m.was)), w.committed)
	}
}

// steps are numbers that look like chance, the same ones each time.
type steps uint64

// below is the next one, from 0 to ahead of most.
func (s *steps) below(most int) int {
	*s = *s*6364136223846793005 + 1442695040888963407
	return int(*s >> 33 % steps(most))
}

// ends are ints at the ends of heaps, of pages, of slots, of Gens, and of all ints.
func ends() []int {
	return []int{math.MinInt, math.MinInt + 1, -1 << 32, -65536, -4096, -64, -2, -1, 0, 1, 2, 3, 63, 64, 65, 4095, 4096, 4097, 65535, 65536, 65537, 1 << 31, 1 << 32, 1<<32 + 1, lastGen, lastGen + 1, 1 << 62, math.MaxInt - 1, math.MaxInt}
}

// wrongKeys are keys that aren't right.
func wrongKeys() []api.Key {
	return []api.Key{{}, at(0, 1), at(0, 4095), at(-1, 2), at(65, 0), at(64, 4096), at(1, -1), at(1, 4096), at(2, -4096), at(2, math.MinInt), at(2, math.MaxInt), at(math.MinInt, 0), at(math.MaxInt, 0), at(math.MinInt, math.MinInt), at(math.MaxInt, math.MaxInt), at(1+1<<32, 0), at(1, 1<<32)}
}

// several is a right list of pages of several heaps, for 8 slots and more.
func several() []api.Mapped {
	return []api.Mapped{
		page(at(1, 0), 7, 5, 50),
		page(at(1, 4095), 0, 1, 0),
		page(at(2, 0), 3, lastGen-3, math.MaxUint32),
		page(at(64, 4095), 1, 9, 1),
	}
}

// full is a right list of so many pages of all heaps, for as many slots, in steps beside each other.
func full(n int) []api.Mapped {
	var l []api.Mapped
	for i := range n {
		l = append(l, page(at(1+i/1024, i%1024*4), n-1-i, 1+i, uint32(i)))
	}
	return l
}

func TestExample(t *testing.T) {
	m, err := overlay.New(4)
	if m == nil || err != api.OK {
		t.Fatalf("P12.1: New(4): %v", err)
	}
	k := at(1, 0)
	if e, err := m.Put(k); e != (api.Entry{Slot: 0, Gen: 1}) || err != api.OK {
		t.Errorf("P12.2: Put: %v, %v", e, err)
	}
	m.Commit()
	if e, err := m.Put(k); e != (api.Entry{Slot: 1, Gen: 2}) || err != api.OK {
		t.Errorf("P12.2: Put: %v, %v", e, err)
	}
	base, fresh, was := m.Parts()
	if len(base) != 0 || !slices.Equal(fresh, []int{1}) || !slices.Equal(was, []int{0}) {
		t.Errorf("P12.4: Parts: %v, %v, %v", base, fresh, was)
	}
	if e, err := m.Put(k); e != (api.Entry{Slot: 1, Gen: 3}) || err != api.OK {
		t.Errorf("P12.2: Put again: %v, %v", e, err)
	}
}

func TestNew(t *testing.T) {
	for _, n := range []int{1, 2, 63, 64, 65, 100, 4096, api.MaxDisk - 1, api.MaxDisk} {
		w := start(t, n)
		w.alike()
		if w.o.Free() != n {
			t.Errorf("P12.4: New(%d): %d are free", n, w.o.Free())
		}
		none := []api.Mapped{}
		start(t, n, none...).alike()
		one := start(t, n, page(at(64, 4095), n-1, lastGen, 7))
		one.alike()
		one.get(at(64, 4095))
		one.get(at(64, 4094))
	}
	for _, n := range []int{math.MinInt, -api.MaxDisk, -1, 0, api.MaxDisk + 1, 1 << 32, 1<<32 + 1, math.MaxInt} {
		for _, l := range [][]api.Mapped{nil, {}, {page(at(1, 0), 0, 1, 0)}, several(), {page(at(1, 0), api.MaxDisk, 1, 0)}, {page(at(1, 0), n-1, 1, 0)}} {
			if o, err := overlay.New(n, l...); o != nil || err != api.ErrArg {
				t.Errorf("P12.1: New(%d, %v): %v", n, l, err)
			}
		}
	}
}

func TestNewOfCommitted(t *testing.T) {
	for _, n := range []int{8, 9, 64, 65, 1000, api.MaxDisk} {
		w := start(t, n, several()...)
		w.alike()
		for _, p := range several() {
			if e, ok := w.o.Get(p.Key); e != p.Entry || !ok {
				t.Errorf("P12.1: Get(%v): %v, %v", p.Key, e, ok)
			}
		}
		if base, fresh, was := w.o.Parts(); !slices.Equal(base, []int{0, 1, 3, 7}) || len(fresh) != 0 || len(was) != 0 {
			t.Errorf("P12.4: Parts: %v, %v, %v", base, fresh, was)
		}
		if free := w.o.Free(); free != n-4 {
			t.Errorf("P12.4: %d of %d are free", free, n)
		}
	}
	for _, n := range []int{1, 2, 3, 64, 65, 200} {
		start(t, n, full(n)...).alike()
	}
}

// TestNewOfWrongLists: each right list with one thing wrong.
func TestNewOfWrongLists(t *testing.T) {
	fails := func(what string, l []api.Mapped) {
		t.Helper()
		if o, err := overlay.New(8, l...); o != nil || err != api.ErrArg {
			t.Errorf("P12.1: New(8, %v), %s: %v", l, what, err)
		}
	}
	for i := range several() {
		with := func(what string, change func(p *api.Mapped)) {
			t.Helper()
			l := several()
			change(&l[i])
			fails(what, l)
			fails(what+", alone", l[i:i+1])
		}
		for _, k := range wrongKeys() {
			with("a wrong key", func(p *api.Mapped) { p.Key = k })
		}
		for _, slot := range []int{math.MinInt, -1, 8, 9, 65536, 1 << 32, math.MaxInt} {
			with("a wrong slot", func(p *api.Mapped) { p.Slot = slot })
		}
		for _, gen := range []int{math.MinInt, -1, 0, lastGen + 1, math.MaxInt} {
			with("a wrong Gen", func(p *api.Mapped) { p.Gen = gen })
		}
		for j := range several() {
			if i == j {
				continue
			}
			l := several()
			l[i].Slot = l[j].Slot
			fails("one slot twice", l)
			l = several()
			l[i].Key = l[j].Key
			fails("one key twice", l)
			l = several()
			l[i], l[j] = l[j], l[i]
			fails("not in order", l)
		}
	}
	fails("more than there are slots", full(9))
}

func TestGet(t *testing.T) {
	w := start(t, 20, several()...)
	a, b, c, d := at(1, 0), at(1, 4095), at(2, 0), at(3, 7)
	for range 2 {
		for _, k := range append(wrongKeys(), a, b, c, d, at(64, 4095), at(1, 1), at(64, 0)) {
			w.get(k)
		}
		w.put(a)
		w.sum(a, 77)
		w.drop(b)
		w.drop(c)
		w.put(c)
		w.put(d)
	}
	if e, ok := w.o.Get(a); e.Gen != 7 || e.Sum != 77 || !ok {
		t.Errorf("P12.1: Get of what is fresh, not of what was: %v, %v", e, ok)
	}
	if e, ok := w.o.Get(b); e != (api.Entry{}) || ok {
		t.Errorf("P12.1: Get of what was dropped: %v, %v", e, ok)
	}
	w.alike()
}

// TestPutAgain: within one commit the slot stays, and Gen rises; behind it there is another slot, and Gen rises on.
func TestPutAgain(t *testing.T) {
	w := start(t, 4)
	k := at(5, 6)
	for i := range 5 {
		if e := w.put(k); e != (api.Entry{Slot: 0, Gen: 1 + i}) {
			t.Errorf("P12.2: Put, the %d. time: %v", i+1, e)
		}
		w.sum(k, uint32(i)+1)
		w.alike()
	}
	w.commit()
	w.alike()
	for i := range 5 {
		if e := w.put(k); e != (api.Entry{Slot: 1, Gen: 6 + i}) {
			t.Errorf("P12.2: Put behind a Commit, the %d. time: %v", i+1, e)
		}
		w.alike()
	}
	w.commit()
	w.alike()
	if e := w.put(k); e != (api.Entry{Slot: 0, Gen: 11}) {
		t.Errorf("P12.2: Put behind two Commits: %v", e)
	}
	w.alike()
}

// TestPutLosesTheSum: what was summed isn't there any more.
func TestPutLosesTheSum(t *testing.T) {
	w := start(t, 4, page(at(1, 0), 2, 3, 99))
	k := at(1, 0)
	for range 3 {
		if e := w.put(k); e.Sum != 0 {
			t.Errorf("P12.2: Put: %v", e)
		}
		w.get(k)
		w.sum(k, 1234)
		if e, _ := w.o.Get(k); e.Sum != 1234 {
			t.Errorf("P12.2: Sum: %v", e)
		}
		w.alike()
	}
}

func TestPutOfWrongKeys(t *testing.T) {
	for _, w := range []*twin{start(t, 20, several()...), start(t, 1), start(t, 3, full(3)...)} {
		for _, k := range wrongKeys() {
			// ErrArg is named ahead of ErrSpace: the third one has no free slot.
			if e, err := w.o.Put(k); e != (api.Entry{}) || err != api.ErrArg {
				t.Errorf("P12.2: Put(%v): %v, %v", k, e, err)
			}
			w.sum(k, 1)
			w.drop(k)
		}
		w.alike()
	}
	w := start(t, 20)
	for _, k := range []api.Key{at(1, 0), at(1, 4095), at(64, 0), at(64, 4095), at(33, 2000)} {
		if e := w.put(k); e.Gen != 1 {
			t.Errorf("P12.2: Put(%v): %v", k, e)
		}
	}
	w.alike()
}

// TestPutWithoutRoom: a board with one free slot, and with none.
func TestPutWithoutRoom(t *testing.T) {
	a, b, c, d := at(1, 0), at(1, 4), at(1, 8), at(9, 9)
	w := start(t, 4, full(3)...)
	w.alike()
	if e := w.put(b); e != (api.Entry{Slot: 3, Gen: 3}) {
		t.Errorf("P12.2: Put into the last free slot: %v", e)
	}
	w.alike()
	for range 2 {
		for _, k := range []api.Key{a, c, d} {
			if e, err := w.o.Put(k); e != (api.Entry{}) || err != api.ErrSpace {
				t.Errorf("P12.2: Put(%v) with no free slot: %v, %v", k, e, err)
			}
			// What it has in base is still there.
			w.get(k)
			w.alike()
		}
	}
	// What is fresh needs no other slot.
	w.put(b)
	w.put(b)
	w.alike()
	// A dropped page's slot, which is committed, isn't free; one that is fresh is.
	w.drop(a)
	w.put(a)
	w.put(d)
	w.alike()
	w.drop(b)
	w.alike()
	if e := w.put(d); e != (api.Entry{Slot: 3, Gen: 1}) {
		t.Errorf("P12.2: Put into the slot of what was dropped: %v", e)
	}
	w.put(a)
	w.put(b)
	w.alike()
	w.commit()
	w.alike()
	// The slots of a and b are free now.
	if w.o.Free() != 2 {
		t.Errorf("P12.4: %d are free", w.o.Free())
	}
	w.put(a)
	w.put(b)
	w.put(c)
	w.alike()

	one := start(t, 1)
	one.put(a)
	one.put(b)
	one.put(a)
	one.alike()
	one.commit()
	one.put(a)
	one.alike()
	one.drop(a)
	one.put(a)
	one.alike()
	one.commit()
	one.alike()
	one.put(a)
	one.alike()
}

// TestPutTakesTheBoardsSlot: of the cluster with the fewest free ones, the least.
func TestPutTakesTheBoardsSlot(t *testing.T) {
	var l []api.Mapped
	for i := range 30 {
		l = append(l, page(at(1, i), 70+i, 1, 0))
	}
	w := start(t, 200, l...)
	for _, c := range []struct {
		k    api.Key
		slot int
	}{{at(2, 0), 192}, {at(1, 3), 193}, {at(2, 1), 194}} {
		if e := w.put(c.k); e.Slot != c.slot {
			t.Errorf("P12.2: Put(%v): %v, not %d", c.k, e, c.slot)
		}
	}
	for i := range 200 {
		w.put(at(3, i))
		w.alike()
	}
}

func TestSum(t *testing.T) {
	w := start(t, 9, several()...)
	base, fresh, gone, added := at(1, 0), at(2, 0), at(1, 4095), at(7, 7)
	w.put(fresh)
	w.put(added)
	w.drop(gone)
	for _, sum := range []uint32{0, 1, 255, 1 << 31, math.MaxUint32} {
		for _, k := range append(wrongKeys(), base, gone, at(7, 8)) {
			if err := w.o.Sum(k, sum); err != api.ErrArg {
				t.Errorf("P12.2: Sum(%v, %d): %v", k, sum, err)
			}
		}
		for _, k := range []api.Key{fresh, added} {
			w.sum(k, sum)
			if e, _ := w.o.Get(k); e.Sum != sum {
				t.Errorf("P12.2: Sum(%v, %d): %v", k, sum, e)
			}
		}
		w.alike()
	}
	w.commit()
	// They are committed, with their sums: no other one can be given.
	for _, k := range []api.Key{fresh, added} {
		if err := w.o.Sum(k, 5); err != api.ErrArg {
			t.Errorf("P12.2: Sum(%v) behind a Commit: %v", k, err)
		}
		if e, _ := w.o.Get(k); e.Sum != math.MaxUint32 {
			t.Errorf("P12.3: Commit lost the Sum: %v", e)
		}
	}
	w.alike()
	w.put(added)
	w.drop(added)
	w.sum(added, 3)
	w.alike()
}

func TestDrop(t *testing.T) {
	w := start(t, 9, several()...)
	base, over, added := at(1, 0), at(2, 0), at(7, 7)
	drops := func(k api.Key, want bool, free int) {
		t.Helper()
		if got := w.o.Drop(k); got != want || w.m.drop(k) != want {
			t.Errorf("P12.2: Drop(%v): %v", k, got)
		}
		if w.o.Free() != free {
			t.Errorf("P12.4: behind Drop(%v): %d are free, not %d", k, w.o.Free(), free)
		}
		w.get(k)
		w.alike()
	}
	for _, k := range append(wrongKeys(), added, at(1, 1), at(64, 4094)) {
		drops(k, false, 5)
	}
	// A committed one's slot isn't free, but for a Commit.
	drops(base, true, 5)
	drops(base, false, 5)
	w.put(over)
	w.put(added)
	drops(added, true, 4)
	drops(added, false, 4)
	drops(over, true, 5)
	drops(over, false, 5)
	if base, fresh, was := w.o.Parts(); !slices.Equal(base, []int{0, 1}) || len(fresh) != 0 || !slices.Equal(was, []int{3, 7}) {
		t.Errorf("P12.2: behind Drops: %v, %v, %v", base, fresh, was)
	}
	w.commit()
	w.alike()
	if w.o.Free() != 7 {
		t.Errorf("P12.4: %d are free", w.o.Free())
	}
	drops(base, false, 7)
	drops(over, false, 7)
}

// TestDropAndPutAgain: ahead of a Commit Gen goes on from what was; behind it, it begins anew.
func TestDropAndPutAgain(t *testing.T) {
	k := at(2, 3)
	w := start(t, 4, page(k, 1, 40, 9))
	w.drop(k)
	w.alike()
	if e := w.put(k); e != (api.Entry{Slot: 0, Gen: 41}) {
		t.Errorf("P12.2: Put behind Drop: %v", e)
	}
	if fresh, gone := w.o.Diff(); len(fresh) != 1 || len(gone) != 0 {
		t.Errorf("P12.3: Diff of a key in was and fresh: %v, %v", fresh, gone)
	}
	w.put(k)
	w.put(k)
	w.alike()
	w.drop(k)
	w.alike()
	// What it had in was is still of Gen 40.
	if e := w.put(k); e != (api.Entry{Slot: 0, Gen: 41}) {
		t.Errorf("P12.2: Put behind Drop of what was fresh: %v", e)
	}
	w.drop(k)
	if fresh, gone := w.o.Diff(); len(fresh) != 0 || !slices.Equal(gone, []api.Key{k}) {
		t.Errorf("P12.3: Diff of a key in was: %v, %v", fresh, gone)
	}
	w.alike()
	w.commit()
	w.alike()
	if w.o.Free() != 4 {
		t.Errorf("P12.4: %d are free", w.o.Free())
	}
	if e := w.put(k); e != (api.Entry{Slot: 0, Gen: 1}) {
		t.Errorf("P12.2: Put behind Drop and Commit: %v", e)
	}
	w.drop(k)
	w.alike()
	// Nothing that is committed tells how often it was put.
	if e := w.put(k); e != (api.Entry{Slot: 0, Gen: 1}) {
		t.Errorf("P12.2: Put behind Put and Drop: %v", e)
	}
	w.put(k)
	w.commit()
	w.alike()
	if e := w.put(k); e != (api.Entry{Slot: 1, Gen: 3}) {
		t.Errorf("P12.2: Put behind a Commit: %v", e)
	}
	w.alike()
}

// TestGenBeyondTheLastOne: Put asks of Gen no more than that it is one more.
func TestGenBeyondTheLastOne(t *testing.T) {
	w := start(t, 4, page(at(1, 0), 0, lastGen, 0))
	for i := range 3 {
		if e := w.put(at(1, 0)); e.Gen != lastGen+1+i {
			t.Errorf("P12.2: Put: %v", e)
		}
	}
	w.alike()
}

func TestEmpty(t *testing.T) {
	for _, n := range []int{1, 64, 65, api.MaxDisk} {
		w := start(t, n)
		for range 3 {
			fresh, gone := w.o.Diff()
			if len(fresh) != 0 || len(gone) != 0 || len(w.o.All()) != 0 || len(w.o.Committed()) != 0 {
				t.Errorf("P12.3: an empty one: %v, %v, %v, %v", fresh, gone, w.o.All(), w.o.Committed())
			}
			for _, heap := range ends() {
				if ks := w.o.Keys(heap); len(ks) != 0 {
					t.Errorf("P12.3: Keys(%d) of an empty one: %v", heap, ks)
				}
			}
			w.alike()
			w.commit()
		}
	}
}

func TestDiff(t *testing.T) {
	w := start(t, 20, several()...)
	for _, k := range []api.Key{at(64, 4095), at(2, 1), at(1, 4095), at(2, 0), at(1, 2)} {
		w.put(k)
	}
	w.drop(at(2, 0))
	w.drop(at(1, 0))
	w.drop(at(1, 2))
	fresh, gone := w.o.Diff()
	var ks []api.Key
	for _, p := range fresh {
		ks = append(ks, p.Key)
	}
	if !slices.Equal(ks, []api.Key{at(1, 4095), at(2, 1), at(64, 4095)}) {
		t.Errorf("P12.3: Diff: %v", fresh)
	}
	if !slices.Equal(gone, []api.Key{at(1, 0), at(2, 0)}) {
		t.Errorf("P12.3: Diff: gone: %v", gone)
	}
	w.alike()
}

// TestDiffLeadsThere: what is committed, without what is gone, and with what is fresh, is what the next Commit commits.
func TestDiffLeadsThere(t *testing.T) {
	s := steps(123)
	w := start(t, 30, several()...)
	for range 200 {
		for range s.below(20) {
			k := at(1+s.below(3), s.below(4))
			if s.below(3) == 0 {
				w.drop(k)
			} else {
				w.put(k)
				w.sum(k, uint32(s.below(1000)))
			}
		}
		fresh, gone := w.o.Diff()
		var there []api.Mapped
		for _, p := range w.o.Committed() {
			if !slices.Contains(gone, p.Key) && find(fresh, p.Key) < 0 {
				there = append(there, p)
			}
		}
		there = both(there, fresh)
		all := w.o.All()
		w.commit()
		if got := w.o.Committed(); !slices.Equal(got, there) || !slices.Equal(got, all) {
			t.Fatalf("P12.3: Commit: %v; not %v, which is %v", got, there, all)
		}
	}
}

func TestCommit(t *testing.T) {
	w := start(t, 9, several()...)
	// With nothing since, it leaves all as it is; and so do two of them.
	for range 3 {
		w.commit()
		w.alike()
		if got := w.o.Committed(); !slices.Equal(got, several()) {
			t.Errorf("P12.3: Commit with nothing since: %v", got)
		}
	}
	w.put(at(1, 0))
	w.drop(at(2, 0))
	w.put(at(3, 0))
	w.sum(at(3, 0), 33)
	if w.o.Free() != 3 {
		t.Errorf("P12.4: ahead of Commit %d are free", w.o.Free())
	}
	all := w.o.All()
	for range 3 {
		w.commit()
		w.alike()
		fresh, gone := w.o.Diff()
		if len(fresh) != 0 || len(gone) != 0 {
			t.Errorf("P12.3: Diff behind Commit: %v, %v", fresh, gone)
		}
		if got := w.o.Committed(); !slices.Equal(got, all) || !slices.Equal(w.o.All(), all) {
			t.Errorf("P12.3: Committed behind Commit: %v, not %v", got, all)
		}
		if w.o.Free() != 5 {
			t.Errorf("P12.4: behind Commit %d are free", w.o.Free())
		}
	}
	for _, p := range all {
		w.drop(p.Key)
	}
	w.alike()
	w.commit()
	w.alike()
	if w.o.Free() != 9 || len(w.o.All()) != 0 || len(w.o.Committed()) != 0 {
		t.Errorf("P12.3: Commit of nothing: %v, %v", w.o.All(), w.o.Committed())
	}
}

func TestKeys(t *testing.T) {
	w := start(t, 20, several()...)
	w.put(at(2, 4095))
	w.put(at(2, 7))
	w.put(at(1, 0))
	w.put(at(1, 1))
	w.drop(at(1, 4095))
	for _, c := range []struct {
		heap int
		want []api.Key
	}{
		{1, []api.Key{at(1, 0), at(1, 1)}},
		{2, []api.Key{at(2, 0), at(2, 7), at(2, 4095)}},
		{3, nil},
		{63, nil},
		{64, []api.Key{at(64, 4095)}},
		{65, nil},
		{0, nil},
		{-1, nil},
		{math.MinInt, nil},
		{math.MaxInt, nil},
		{1<<32 + 1, nil},
	} {
		for range 2 {
			if got := w.o.Keys(c.heap); !slices.Equal(got, c.want) {
				t.Errorf("P12.3: Keys(%d): %v, not %v", c.heap, got, c.want)
			}
		}
	}
	w.commit()
	w.alike()
	// A heap that loses all its pages has none, ahead of a Commit and behind it.
	for _, k := range w.o.Keys(2) {
		w.drop(k)
	}
	if got := w.o.Keys(2); len(got) != 0 {
		t.Errorf("P12.3: Keys(2): %v", got)
	}
	w.alike()
	w.commit()
	w.alike()
}

// TestGreatDisk: as many slots as there may be, all of them taken, in base or in fresh.
func TestGreatDisk(t *testing.T) {
	n := api.MaxDisk
	o, err := overlay.New(n, full(n)...)
	if o == nil || err != api.OK {
		t.Fatalf("P12.1: New(%d) of as many pages: %v", n, err)
	}
	for _, k := range []api.Key{at(1, 0), at(1, 1), at(64, 4092)} {
		if e, err := o.Put(k); e != (api.Entry{}) || err != api.ErrSpace {
			t.Errorf("P12.2: Put(%v) with no free slot: %v, %v", k, e, err)
		}
	}
	if o.Free() != 0 || !slices.Equal(o.All(), full(n)) || !slices.Equal(o.Committed(), full(n)) {
		t.Error("P12.3: a full one isn't what was handed in")
	}
	for _, p := range full(n) {
		if !o.Drop(p.Key) {
			t.Fatalf("P12.2: Drop(%v)", p.Key)
		}
	}
	if base, fresh, was := o.Parts(); len(base) != 0 || len(fresh) != 0 || len(was) != n || o.Free() != 0 {
		t.Errorf("P12.4: Parts: %d, %d, %d; %d are free", len(base), len(fresh), len(was), o.Free())
	}
	o.Commit()
	if o.Free() != n || len(o.All()) != 0 || len(o.Committed()) != 0 {
		t.Errorf("P12.3: Commit: %d are free", o.Free())
	}
	for slot, p := range full(n) {
		if e, err := o.Put(p.Key); e != (api.Entry{Slot: slot, Gen: 1}) || err != api.OK {
			t.Fatalf("P12.2: Put(%v): %v, %v", p.Key, e, err)
		}
	}
	if e, err := o.Put(at(1, 1)); e != (api.Entry{}) || err != api.ErrSpace || o.Free() != 0 {
		t.Errorf("P12.2: Put with no free slot: %v, %v", e, err)
	}
	if ks := o.Keys(64); len(ks) != 1024 || !slices.IsSortedFunc(ks, func(a, b api.Key) int { return a.Page - b.Page }) {
		t.Errorf("P12.3: Keys(64): %d", len(ks))
	}
}

// TestAllShortScripts: of a few slots and two keys all rows of calls, up to a length.
func TestAllShortScripts(t *testing.T) {
	a, b := at(1, 0), at(1, 1)
	calls := []func(w *twin){
		func(w *twin) { w.put(a) },
		func(w *twin) { w.put(b) },
		func(w *twin) { w.drop(a) },
		func(w *twin) { w.drop(b) },
		func(w *twin) { w.sum(a, 8) },
		func(w *twin) { w.commit() },
	}
	begins := []struct {
		n         int
		committed []api.Mapped
	}{
		{1, nil},
		{2, nil},
		{3, nil},
		{2, []api.Mapped{page(a, 1, 5, 6)}},
		{3, []api.Mapped{page(a, 1, 5, 6), page(b, 0, 1, 2)}},
	}
	for _, begin := range begins {
		for length, count := 0, 1; length <= 5; length, count = length+1, count*len(calls) {
			for script := range count {
				w := start(t, begin.n, begin.committed...)
				for rest, i := script, 0; i < length; rest, i = rest/len(calls), i+1 {
					calls[rest%len(calls)](w)
				}
				w.get(a)
				w.get(b)
				w.alike()
			}
		}
	}
}

// TestManyCalls: overlays that fill and empty again, by calls of all kinds, asked after each step.
func TestManyCalls(t *testing.T) {
	for _, c := range []struct{ n, heaps, of, rounds int }{{1, 1, 2, 300}, {2, 2, 2, 1000}, {5, 2, 3, 3000}, {20, 3, 8, 3000}, {64, 4, 10, 2000}, {65, 3, 30, 2000}, {130, 64, 3, 2000}, {200, 5, 60, 2000}} {
		s := steps(c.n)
		w := start(t, c.n)
		for round := range c.rounds {
			k := at(1+s.below(c.heaps), s.below(c.of)*4095/max(c.of-1, 1))
			// It fills for a while, and empties for a while.
			kind := s.below(10)
			if round/200%2 == 1 && kind < 4 {
				kind = 6
			}
			switch kind {
			case 0, 1, 2, 3:
				w.put(k)
			case 4:
				w.put(k)
				w.sum(k, uint32(s.below(1<<31)))
			case 5:
				w.sum(k, uint32(s.below(1<<31)))
			case 6, 7:
				w.drop(k)
			case 8:
				w.get(k)
				w.put(wrongKeys()[s.below(len(wrongKeys()))])
			case 9:
				if s.below(4) == 0 {
					w.commit()
				}
			}
			w.alike()
		}
	}
}

// TestSlotsOfCommittedStay: whatever is put and dropped, no slot of a committed page is another one's ahead of the next Commit.
func TestSlotsOfCommittedStay(t *testing.T) {
	s := steps(12)
	o, err := overlay.New(40, several()...)
	if err != api.OK {
		t.Fatalf("P12.1: New: %v", err)
	}
	for range 300 {
		whose := make(map[int]api.Key)
		for _, p := range o.Committed() {
			whose[p.Slot] = p.Key
		}
		for range s.below(60) {
			k := at(1+s.below(4), s.below(6))
			if s.below(3) == 0 {
				o.Drop(k)
				continue
			}
			e, err := o.Put(k)
			if owner, is := whose[e.Slot]; err == api.OK && is {
				t.Fatalf("P12.2: Put(%v): slot %d, which is of %v, committed", k, e.Slot, owner)
			}
		}
		for _, p := range o.Committed() {
			if owner, is := whose[p.Slot]; !is || owner != p.Key {
				t.Fatalf("P12.3: Committed: %v ahead of a Commit", p)
			}
			delete(whose, p.Slot)
		}
		if len(whose) > 0 {
			t.Fatalf("P12.3: Committed lost %v ahead of a Commit", whose)
		}
		o.Commit()
	}
}

// TestErrorsChangeNothing: what comes behind them is as if they hadn't been.
func TestErrorsChangeNothing(t *testing.T) {
	w := start(t, 5, several()[1:]...)
	w.put(at(1, 7))
	w.put(at(1, 8))
	w.sum(at(1, 7), 3)
	for _, k := range append(wrongKeys(), at(1, 4095), at(2, 0), at(9, 9)) {
		if _, err := w.o.Put(k); err == api.OK {
			t.Fatalf("P12.2: Put(%v)", k)
		}
		if err := w.o.Sum(k, 4); err != api.ErrArg {
			t.Fatalf("P12.2: Sum(%v): %v", k, err)
		}
		w.alike()
	}
	w.commit()
	w.alike()
}

// TestAskingChangesNothing: the calls that only tell leave the overlay as it is.
func TestAskingChangesNothing(t *testing.T) {
	w := start(t, 20, several()...)
	w.put(at(1, 0))
	w.drop(at(2, 0))
	w.put(at(5, 5))
	for range 5 {
		for _, x := range ends() {
			w.o.Keys(x)
			w.o.Get(at(x, x))
			w.o.Get(at(1, x))
		}
		w.o.Diff()
		w.o.Committed()
		w.o.All()
		w.o.Parts()
		w.o.Free()
		w.alike()
	}
	w.commit()
	w.alike()
}

// TestHandedIn: New neither changes nor keeps the list, its spare room included.
func TestHandedIn(t *testing.T) {
	room := append(several(), page(at(64, 4095), 9, 9, 9), page(at(63, 0), 8, 8, 8))
	kept := slices.Clone(room)
	w := start(t, 20, room[:4]...)
	w.m.base = slices.Clone(kept[:4])
	for i := range room[:4] {
		room[i] = page(at(3, i), i, 1, 1)
	}
	w.alike()
	w.put(at(1, 0))
	w.drop(at(2, 0))
	w.sum(at(1, 0), 8)
	w.commit()
	w.alike()
	for i := range room[:4] {
		if room[i] != page(at(3, i), i, 1, 1) {
			t.Errorf("P12.4: a later call changed what was handed in: %v", room[i])
		}
	}
	if !slices.Equal(room[4:], kept[4:]) {
		t.Errorf("P12.4: New changed the spare room: %v", room[4:])
	}
	room = slices.Clone(kept)
	start(t, 20, room[:4]...)
	if !slices.Equal(room, kept) {
		t.Errorf("P12.4: New changed what was handed in: %v", room)
	}
}

// told are all lists that an overlay tells: of pages, of keys, of slots.
type told struct {
	pages [3][]api.Mapped
	keys  [3][]api.Key
	slots [3][]int
}

func tell(o *overlay.Map) told {
	var a told
	a.pages[0], a.keys[0] = o.Diff()
	a.pages[1], a.pages[2] = o.Committed(), o.All()
	a.keys[1], a.keys[2] = o.Keys(1), o.Keys(2)
	a.slots[0], a.slots[1], a.slots[2] = o.Parts()
	return a
}

// spoil overwrites all lists, their spare room too.
func (a told) spoil() {
	for i := range 3 {
		for j := range a.pages[i][:cap(a.pages[i])] {
			a.pages[i][:cap(a.pages[i])][j] = page(at(9, 9), 9, 9, 9)
		}
		for j := range a.keys[i][:cap(a.keys[i])] {
			a.keys[i][:cap(a.keys[i])][j] = at(9, 9)
		}
		for j := range a.slots[i][:cap(a.slots[i])] {
			a.slots[i][:cap(a.slots[i])][j] = 9
		}
	}
}

func (a told) clone() told {
	for i := range 3 {
		a.pages[i], a.keys[i], a.slots[i] = slices.Clone(a.pages[i]), slices.Clone(a.keys[i]), slices.Clone(a.slots[i])
	}
	return a
}

func (a told) equal(b told) bool {
	for i := range 3 {
		if !slices.Equal(a.pages[i], b.pages[i]) || !slices.Equal(a.keys[i], b.keys[i]) || !slices.Equal(a.slots[i], b.slots[i]) {
			return false
		}
	}
	return true
}

// TestAnswersAreNewMemory: what is done to one answer is seen in no other one, nor in the overlay.
func TestAnswersAreNewMemory(t *testing.T) {
	w := start(t, 20, several()...)
	w.put(at(1, 0))
	w.put(at(1, 9))
	w.put(at(2, 9))
	w.drop(at(2, 0))
	w.drop(at(1, 4095))
	first, second := tell(w.o), tell(w.o)
	kept := second.clone()
	first.spoil()
	if !second.equal(kept) {
		t.Errorf("P12.4: two answers share memory: %v, not %v", second, kept)
	}
	w.alike()
	// Nor do two lists of one answer.
	base, fresh, was := w.o.Parts()
	_ = append(base, 99, 99)
	_ = append(fresh, 98, 98)
	keptFresh, keptWas := slices.Clone(fresh), slices.Clone(was)
	told{slots: [3][]int{base}}.spoil()
	if !slices.Equal(fresh, keptFresh) || !slices.Equal(was, keptWas) {
		t.Errorf("P12.4: the lists of Parts share memory: %v, %v", fresh, was)
	}
	told{slots: [3][]int{fresh}}.spoil()
	if !slices.Equal(was, keptWas) {
		t.Errorf("P12.4: the lists of Parts share memory: %v", was)
	}
	w.alike()
	// A later call changes no answer.
	w.put(at(1, 0))
	w.put(at(2, 0))
	w.drop(at(1, 9))
	w.commit()
	w.put(at(1, 0))
	if !second.equal(kept) {
		t.Errorf("P12.4: a later call changed an answer: %v, not %v", second, kept)
	}
	w.alike()
}

// TestOverlaysAreApart: what is done to one is not seen in another one.
func TestOverlaysAreApart(t *testing.T) {
	l := several()
	w, other := start(t, 20, l...), start(t, 20, l...)
	w.put(at(1, 0))
	w.drop(at(2, 0))
	w.put(at(9, 9))
	other.alike()
	w.commit()
	other.alike()
	other.put(at(1, 0))
	other.commit()
	w.alike()
	other.alike()
}

// TestEveryCallEnds: a panic at any of these fails it.
func TestEveryCallEnds(t *testing.T) {
	for _, n := range ends() {
		for _, slot := range ends() {
			for _, gen := range ends() {
				overlay.New(n, page(at(1, 0), slot, gen, 0))
			}
			overlay.New(n, page(at(slot, n), slot, 1, 0), page(at(n, slot), n, 1, 0))
		}
	}
	w := start(t, 70, several()...)
	for _, heap := range ends() {
		for _, p := range ends() {
			k := at(heap, p)
			w.get(k)
			w.sum(k, 1)
			w.put(k)
			w.sum(k, 2)
			w.get(k)
		}
		w.o.Keys(heap)
		w.alike()
	}
	w.commit()
	for _, heap := range ends() {
		for _, p := range ends() {
			w.drop(at(heap, p))
			w.drop(at(heap, p))
		}
	}
	w.alike()
	w.commit()
	w.alike()
}
