package names_test

import (
	"bytes"
	"math"
	"slices"
	"strings"
	"testing"

	"mothball/api"
	"mothball/names"
)

const (
	maxHeap = 64
	maxName = 32
)

// named is a heap's name and number.
func named(name string, heap int) api.Named { return api.Named{Name: name, Heap: heap} }

// several is a directory of names of many kinds: of one octet and of all, beginnings of others, of octets above 127, and of noughts.
func several() []api.Named {
	return []api.Named{
		named("\x00", 64),
		named("\x00\x00", 7),
		named("a", 2),
		named("a\x00", 33),
		named("ab", 1),
		named(strings.Repeat("b", maxName-1), 3),
		named(strings.Repeat("b", maxName), 63),
		named("c", 5),
		named("\x7f", 9),
		named("\x80", 4),
		named("\xc3\xa4", 8),
		named("\xff\xfe", 6),
	}
}

// many is a directory of so many names, whose Heaps fall.
func many(count int) []api.Named {
	var l []api.Named
	for i := range count {
		l = append(l, named("heap "+string([]byte{byte(4 * i)}), count-i))
	}
	return l
}

// ends are ints at the ends of Heaps, of octets, and of all ints.
func ends() []int {
	return []int{math.MinInt, math.MinInt + 1, -1 << 32, -257, -256, -255, -64, -2, -1, 0, 1, 2, 62, 63, 64, 65, 66, 127, 128, 255, 256, 257, 258, 320, 65535, 65536, math.MaxInt32, 1 << 32, 1<<32 + 1, math.MaxInt - 1, math.MaxInt}
}

// noNames are texts that aren't names.
func noNames() []string {
	return []string{"", strings.Repeat("x", maxName+1), strings.Repeat("\x00", maxName+1), strings.Repeat("x", 2*maxName), strings.Repeat("x", 256), strings.Repeat("x", 257), strings.Repeat("x", 65536), strings.Repeat("x", 65537), strings.Repeat("x", 70000)}
}

// isName: has a text as many octets as a name may have?
func isName(s string) bool { return len(s) >= 1 && len(s) <= maxName }

// ahead: does a name come ahead of another one: octet by octet, a beginning ahead of the whole?
func ahead(a, b string) bool {
	for i := range min(len(a), len(b)) {
		if a[i] != b[i] {
			return a[i] < b[i]
		}
	}
	return len(a) < len(b)
}

// right: is a list a directory? Each is held against each.
func right(l []api.Named) bool {
	for i, n := range l {
		if !isName(n.Name) || n.Heap < 1 || n.Heap > maxHeap {
			return false
		}
		for _, other := range l[:i] {
			if !ahead(other.Name, n.Name) || other.Heap == n.Heap {
				return false
			}
		}
	}
	return true
}

// laid are a directory's octets.
func laid(l []api.Named) []byte {
	b := []byte{byte(len(l))}
	for _, n := range l {
		b = append(b, byte(n.Heap), byte(len(n.Name)), byte(len(n.Name)>>8))
		b = append(b, n.Name...)
	}
	return b
}

// told is the directory at the beginning of octets, and how many it has.
func told(b []byte) ([]api.Named, int) {
	if len(b) < 1 {
		return nil, 0
	}
	var l []api.Named
	at := 1
	for range int(b[0]) {
		if len(b) < at+3 {
			return nil, 0
		}
		end := at + 3 + int(b[at+1]) + 256*int(b[at+2])
		if len(b) < end {
			return nil, 0
		}
		l = append(l, named(string(b[at+3:end]), int(b[at])))
		at = end
	}
	if !right(l) {
		return nil, 0
	}
	return l, at
}

// model is a directory as plainly as can be: of each Heap the name, or an empty text.
type model [maxHeap + 1]string

// list are all names, each put where it belongs.
func (m *model) list() []api.Named {
	var l []api.Named
	for heap, name := range m {
		if name == "" {
			continue
		}
		i := 0
		for i < len(l) && ahead(l[i].Name, name) {
			i++
		}
		l = slices.Insert(l, i, named(name, heap))
	}
	return l
}

// find is a name's Heap; 0: there is none.
func (m *model) find(name string) int {
	for heap := 1; heap <= maxHeap; heap++ {
		if name != "" && m[heap] == name {
			return heap
		}
	}
	return 0
}

// name is a Heap's name; an empty text: there is none.
func (m *model) name(heap int) string {
	if heap < 1 || heap > maxHeap {
		return ""
	}
	return m[heap]
}

func (m *model) add(name string) (int, api.Errno) {
	if !isName(name) {
		return 0, api.ErrArg
	}
	if m.find(name) > 0 {
		return 0, api.ErrName
	}
	for heap := 1; heap <= maxHeap; heap++ {
		if m[heap] == "" {
			m[heap] = name
			return heap, api.OK
		}
	}
	return 0, api.ErrMany
}

func (m *model) drop(name string) api.Errno {
	heap := m.find(name)
	if heap == 0 {
		return api.ErrName
	}
	m[heap] = ""
	return api.OK
}

// modelOf is the model of a directory.
func modelOf(l []api.Named) *model {
	m := &model{}
	for _, n := range l {
		m[n.Heap] = n.Name
	}
	return m
}

// steps are numbers that look like chance, the same ones each time.
type steps uint64

// below is the next one, from 0 to ahead of most.
func (s *steps) below(most int) int {
	*s = *s*6364136223846793005 + 1442695040888963407
	return int(*s >> 33 % steps(most))
}

// octets are so many of many kinds.
func (s *steps) octets(size int) []byte {
	b := make([]byte, size)
	for i := range b {
		b[i] = byte(s.below(256))
	}
	return b
}

// rights holds Right to what it must be.
func rights(t *testing.T, l []api.Named, want bool) {
	t.Helper()
	if got := names.Right(l...); got != want {
		t.Fatalf("P13.1: Right(%v): %v", l, got)
	}
}

// gets holds Get to what it must be.
func gets(t *testing.T, b []byte, want []api.Named, size int) {
	t.Helper()
	if got, n := names.Get(b); n != size || !slices.Equal(got, want) {
		t.Fatalf("P13.3: Get(%q): %v, %d, not %v, %d", b, got, n, want, size)
	}
}

// finds holds what is found of a name to what it must be: its Heap, or 0.
func finds(t *testing.T, l []api.Named, name string, want int) {
	t.Helper()
	if heap, ok := names.Find(l, name); heap != want || ok != (want > 0) {
		t.Fatalf("P13.1: Find(%v, %q): %d, %v, not %d", l, name, heap, ok, want)
	}
}

// tellsName holds a Heap's name to what it must be: its name, or an empty text.
func tellsName(t *testing.T, l []api.Named, heap int, want string) {
	t.Helper()
	if name, ok := names.Name(l, heap); name != want || ok != (want != "") {
		t.Fatalf("P13.1: Name(%v, %d): %q, %v, not %q", l, heap, name, ok, want)
	}
}

// adds puts a name into a directory and its model: the directory behind it. What was handed in stays, whatever comes.
func adds(t *testing.T, l []api.Named, m *model, name string) []api.Named {
	t.Helper()
	was := slices.Clone(l)
	wantHeap, wantErr := m.add(name)
	var want []api.Named
	if wantErr == api.OK {
		want = m.list()
	}
	got, heap, err := names.Add(l, name)
	if err != wantErr || heap != wantHeap || !slices.Equal(got, want) {
		t.Fatalf("P13.2: Add(%v, %q): %v, %d, %d, not %v, %d, %d", l, name, got, heap, err, want, wantHeap, wantErr)
	}
	if !slices.Equal(l, was) {
		t.Fatalf("P13.4: Add(%v, %q) changed it to %v", was, name, l)
	}
	if err != api.OK {
		return l
	}
	return got
}

// drops takes a name out of a directory and its model: the directory behind it.
func drops(t *testing.T, l []api.Named, m *model, name string) []api.Named {
	t.Helper()
	was := slices.Clone(l)
	wantErr := m.drop(name)
	var want []api.Named
	if wantErr == api.OK {
		want = m.list()
	}
	got, err := names.Drop(l, name)
	if err != wantErr || !slices.Equal(got, want) {
		t.Fatalf("P13.2: Drop(%v, %q): %v, %d, not %v, %d", l, name, got, err, want, wantErr)
	}
	if !slices.Equal(l, was) {
		t.Fatalf("P13.4: Drop(%v, %q) changed it to %v", was, name, l)
	}
	if err != api.OK {
		return l
	}
	return got
}

// alike holds all that is told of a directory against its model, of some names too.
func alike(t *testing.T, l []api.Named, m *model, some ...string) {
	t.Helper()
	if want := m.list(); !slices.Equal(l, want) {
		t.Fatalf("P13.2: it is %v, not %v", l, want)
	}
	rights(t, l, true)
	for heap := -1; heap <= maxHeap+2; heap++ {
		tellsName(t, l, heap, m.name(heap))
	}
	for _, name := range some {
		finds(t, l, name, m.find(name))
	}
	for _, n := range l {
		finds(t, l, n.Name, n.Heap)
	}
	thereAndBack(t, l)
}

// thereAndBack holds a directory's octets against the model, and takes them back, alone and with others behind.
func thereAndBack(t *testing.T, l []api.Named) {
	t.Helper()
	b := names.Put(l)
	if !bytes.Equal(b, laid(l)) {
		t.Fatalf("P13.3: Put(%v): %q, not %q", l, b, laid(l))
	}
	gets(t, b, l, len(b))
	gets(t, append(bytes.Clone(b), 1, 1, 0, 'z'), l, len(b))
}

func TestExample(t *testing.T) {
	one, heap, err := names.Add(nil, "b")
	if err != api.OK || heap != 1 || !slices.Equal(one, []api.Named{named("b", 1)}) {
		t.Fatalf("P13.2: Add(none, b): %v, %d, %d", one, heap, err)
	}
	two, heap, err := names.Add(one, "a")
	if err != api.OK || heap != 2 || !slices.Equal(two, []api.Named{named("a", 2), named("b", 1)}) {
		t.Fatalf("P13.2: Add(that, a): %v, %d, %d", two, heap, err)
	}
	finds(t, two, "a", 2)
	finds(t, two, "b", 1)
	if b := names.Put(two); !bytes.Equal(b, []byte{2, 2, 1, 0, 'a', 1, 1, 0, 'b'}) {
		t.Errorf("P13.3: Put: %v", b)
	}
}

// TestEmptyDirectory: none are one, nil or not.
func TestEmptyDirectory(t *testing.T) {
	for _, l := range [][]api.Named{nil, {}, several()[:0]} {
		rights(t, l, true)
		if b := names.Put(l); !bytes.Equal(b, []byte{0}) {
			t.Errorf("P13.3: Put of none: %v", b)
		}
		for _, name := range append(noNames(), "a", "\x00", "\xff") {
			finds(t, l, name, 0)
			drops(t, l, &model{}, name)
			adds(t, l, &model{}, name)
		}
		for _, heap := range ends() {
			tellsName(t, l, heap, "")
		}
	}
	gets(t, []byte{0}, nil, 1)
	gets(t, []byte{0, 1, 1, 0, 'a'}, nil, 1)
	gets(t, nil, nil, 0)
	gets(t, []byte{}, nil, 0)
	gets(t, []byte{1, 2, 3}[:0], nil, 0)
}

// TestNamesOfAllSizes: from none to above all.
func TestNamesOfAllSizes(t *testing.T) {
	for size := range 600 {
		for _, octet := range []string{"\x00", "x", "\x80", "\xff"} {
			name := strings.Repeat(octet, size)
			want := size >= 1 && size <= 32
			rights(t, []api.Named{named(name, 1)}, want)
			adds(t, nil, &model{}, name)
			if want {
				l := adds(t, several(), modelOf(several()), name)
				thereAndBack(t, l)
				thereAndBack(t, []api.Named{named(name, 64)})
			} else {
				gets(t, laid([]api.Named{named(name, 1)}), nil, 0)
			}
		}
	}
	for _, name := range noNames() {
		rights(t, []api.Named{named(name, 1)}, false)
		adds(t, nil, &model{}, name)
		adds(t, several(), modelOf(several()), name)
		finds(t, several(), name, 0)
		drops(t, several(), modelOf(several()), name)
		if len(name) < 65536 {
			gets(t, laid([]api.Named{named(name, 1)}), nil, 0)
		}
	}
}

// TestNamesOfAllOctets: each octet is one that a name may have, and they rise as numbers without a sign.
func TestNamesOfAllOctets(t *testing.T) {
	for a := range 256 {
		one := string([]byte{byte(a)})
		rights(t, []api.Named{named(one, 1)}, true)
		thereAndBack(t, []api.Named{named(one, 1)})
		for b := range 256 {
			other := string([]byte{byte(b)})
			rights(t, []api.Named{named(one, 1), named(other, 2)}, a < b)
			rights(t, []api.Named{named("q"+one, 1), named("q"+other+"z", 2)}, a <= b)
			rights(t, []api.Named{named("q"+one+"a", 1), named("q"+other, 2)}, a < b)
		}
	}
}

// TestBeginnings: a beginning comes ahead of the whole, and is another name.
func TestBeginnings(t *testing.T) {
	whole := strings.Repeat("m", maxName)
	l, m := []api.Named(nil), &model{}
	for size := maxName; size >= 1; size-- {
		finds(t, l, whole[:size], 0)
		l = adds(t, l, m, whole[:size])
	}
	alike(t, l, m, "", "n", "l", whole+"m")
	for size := 1; size <= maxName; size++ {
		l = drops(t, l, m, whole[:size])
		finds(t, l, whole[:size], 0)
		alike(t, l, m)
	}
	for _, octet := range []string{"\x00", "a", "\xff"} {
		rights(t, []api.Named{named("m", 1), named("m"+octet, 2)}, true)
		rights(t, []api.Named{named("m"+octet, 1), named("m", 2)}, false)
	}
}

// TestHeapsOfAllKinds: those from 1 to MaxHeap alone are right.
func TestHeapsOfAllKinds(t *testing.T) {
	for heap := -300; heap <= 600; heap++ {
		rights(t, []api.Named{named("a", heap)}, heap >= 1 && heap <= 64)
	}
	for _, heap := range ends() {
		want := heap >= 1 && heap <= 64
		rights(t, []api.Named{named("a", heap)}, want)
		rights(t, []api.Named{named("a", 3), named("b", heap), named("c", 4)}, want)
	}
	for heap := range 256 {
		b := []byte{1, byte(heap), 1, 0, 'a', 'b'}
		if heap >= 1 && heap <= 64 {
			gets(t, b, []api.Named{named("a", heap)}, 5)
		} else {
			gets(t, b, nil, 0)
		}
	}
	for _, heap := range ends() {
		tellsName(t, several(), heap, modelOf(several()).name(heap))
		tellsName(t, many(64), heap, modelOf(many(64)).name(heap))
	}
}

// TestNoDirectories: lists that don't rise, with a name twice, with a Heap twice, anywhere.
func TestNoDirectories(t *testing.T) {
	was := several()
	rights(t, was, true)
	for i := range was {
		for j := range i {
			l := slices.Clone(was)
			l[i].Heap = l[j].Heap
			rights(t, l, false)
			gets(t, laid(l), nil, 0)
			l = slices.Clone(was)
			l[i].Name = l[j].Name
			rights(t, l, false)
			gets(t, laid(l), nil, 0)
			l = slices.Clone(was)
			l[i], l[j] = l[j], l[i]
			rights(t, l, false)
			gets(t, laid(l), nil, 0)
			l = slices.Clone(was)
			l[i].Heap, l[j].Heap = l[j].Heap, l[i].Heap
			rights(t, l, true)
			thereAndBack(t, l)
		}
		for _, wrong := range []api.Named{was[i], named(was[i].Name, 50), named("", 50), named(strings.Repeat("q", 33), 50), named("q", 0), named("q", -1), named("q", 65)} {
			rights(t, slices.Insert(slices.Clone(was), i, wrong), false)
		}
	}
}

// TestSmallLists: all of up to three of some, right and not.
func TestSmallLists(t *testing.T) {
	var some []api.Named
	for _, name := range []string{"", "a", "ab", "b", "\xff", strings.Repeat("a", 33)} {
		for _, heap := range []int{0, 1, 2, 64, 65} {
			some = append(some, named(name, heap))
		}
	}
	check := func(l ...api.Named) {
		rights(t, l, right(l))
		b := names.Put(l)
		if right(l) && !bytes.Equal(b, laid(l)) {
			t.Fatalf("P13.3: Put(%v): %q", l, b)
		}
		want, size := told(laid(l))
		gets(t, laid(l), want, size)
	}
	check()
	for _, a := range some {
		check(a)
		for _, b := range some {
			check(a, b)
			for _, c := range some {
				check(a, b, c)
			}
		}
	}
}

// TestFullDirectories: of MaxHeap - 1 and MaxHeap names, and what would be one of more.
func TestFullDirectories(t *testing.T) {
	l, m := []api.Named(nil), &model{}
	for i := range maxHeap {
		if i == maxHeap-1 {
			alike(t, l, m)
			l = adds(t, l, m, "")
			l = adds(t, l, m, l[5].Name)
		}
		// Some come ahead of all others, some in the middle, some behind.
		l = adds(t, l, m, string([]byte{byte(i * 101), 'n'}))
	}
	alike(t, l, m, "", "more")
	if len(l) != maxHeap {
		t.Fatalf("P13.2: %d names, not %d", len(l), maxHeap)
	}
	for _, name := range noNames() {
		if got, heap, err := names.Add(l, name); len(got) != 0 || heap != 0 || err != api.ErrArg {
			t.Errorf("P13.2: Add of %q to a full one: %d, %d", name, heap, err)
		}
	}
	for _, n := range l {
		if got, heap, err := names.Add(l, n.Name); len(got) != 0 || heap != 0 || err != api.ErrName {
			t.Errorf("P13.2: Add of %q again: %d, %d", n.Name, heap, err)
		}
	}
	for _, name := range []string{"\x00", "more", "\xff\xff"} {
		if got, heap, err := names.Add(l, name); len(got) != 0 || heap != 0 || err != api.ErrMany {
			t.Errorf("P13.2: Add of %q to a full one: %d, %d", name, heap, err)
		}
		l = adds(t, l, m, name)
		l = drops(t, l, m, name)
	}
	for heap := 1; heap <= 65; heap++ {
		more := append(slices.Clone(l), named("\xff\xff\xff", heap))
		rights(t, more, false)
		gets(t, laid(more), nil, 0)
	}
}

// TestLeastHeap: behind a Drop the Heap that it left is the least, wherever it was.
func TestLeastHeap(t *testing.T) {
	for _, count := range []int{1, 2, 3, 63, 64} {
		was := many(count)
		for i := range was {
			m := modelOf(was)
			l := drops(t, was, m, was[i].Name)
			alike(t, l, m, was[i].Name)
			for _, name := range []string{"\x00", was[i].Name, "heap", "\xff"} {
				next := *m
				more := adds(t, l, &next, name)
				finds(t, more, name, count-i)
				alike(t, more, &next)
			}
		}
	}
	l, m := many(10), modelOf(many(10))
	for _, heap := range []int{9, 2, 7, 4} {
		l = drops(t, l, m, m.name(heap))
	}
	for _, want := range []int{2, 4, 7, 9, 11, 12} {
		name := strings.Repeat("n", want)
		l = adds(t, l, m, name)
		finds(t, l, name, want)
	}
	one, heap, err := names.Add([]api.Named{named("z", 64)}, "a")
	if err != api.OK || heap != 1 || !slices.Equal(one, []api.Named{named("a", 1), named("z", 64)}) {
		t.Errorf("P13.2: Add beside Heap 64 alone: %v, %d, %d", one, heap, err)
	}
	last, heap, err := names.Add(many(64)[1:], "a")
	if err != api.OK || heap != 64 || len(last) != 64 {
		t.Errorf("P13.2: Add of the last Heap: %d, %d", heap, err)
	}
}

// TestSmallScripts: all of up to five Adds and Drops of some names, held against the model behind each.
func TestSmallScripts(t *testing.T) {
	some := []string{"b", "a", "ab", ""}
	var on func(l []api.Named, m model, left int)
	on = func(l []api.Named, m model, left int) {
		alike(t, l, &m, some...)
		if left == 0 {
			return
		}
		for _, name := range some {
			next := m
			on(adds(t, l, &next, name), next, left-1)
			next = m
			on(drops(t, l, &next, name), next, left-1)
		}
	}
	on(nil, model{}, 5)
}

// TestLongScripts: of many names, now more Adds, now more Drops, from none to full and back.
func TestLongScripts(t *testing.T) {
	full := 0
	for seed := range 30 {
		s := steps(seed)
		var pool []string
		for range 20 + s.below(200) {
			name := s.octets(s.below(maxName + 2))
			for i := range name {
				if s.below(4) > 0 {
					name[i] = byte(97 + s.below(1+seed%3))
				}
			}
			pool = append(pool, string(name))
		}
		l, m := []api.Named(nil), &model{}
		most := 0
		for i := range 500 {
			name := pool[s.below(len(pool))]
			if s.below(10) < 8-i/100%2*6 {
				l = adds(t, l, m, name)
			} else {
				l = drops(t, l, m, name)
			}
			most = max(most, len(l))
			alike(t, l, m, pool[:10]...)
		}
		if most == maxHeap {
			full++
		}
	}
	if full < 5 {
		t.Errorf("only %d of the scripts come to a full directory", full)
	}
}

// TestThereAndBack: alone, with other octets behind, and cut at every place.
func TestThereAndBack(t *testing.T) {
	s := steps(1)
	for _, l := range [][]api.Named{nil, several()[:1], several()[:2], several(), many(63), many(64)} {
		thereAndBack(t, l)
		b := names.Put(l)
		for _, behind := range []int{1, 2, 3, 4, 100, 70000} {
			gets(t, append(bytes.Clone(b), s.octets(behind)...), l, len(b))
		}
		gets(t, append(bytes.Clone(b), b...), l, len(b))
		for size := range b {
			gets(t, b[:size], nil, 0)
		}
	}
}

// TestWrongCounts: how many names there are is told wrong.
func TestWrongCounts(t *testing.T) {
	l := many(64)
	b := append(names.Put(l), 70, 1, 0, 'z')
	for count := range 256 {
		b[0] = byte(count)
		want, size := told(b)
		gets(t, b, want, size)
		if count <= 64 && (size == 0 || !slices.Equal(want, l[:count])) {
			t.Fatalf("%d of 64 names aren't a directory", count)
		}
		gets(t, b[:1], nil, max(0, 1-count))
	}
}

// TestTurnedOctets: each one to each other, against the model.
func TestTurnedOctets(t *testing.T) {
	for _, l := range [][]api.Named{several()[:1], several()[2:5], several()} {
		b := append(names.Put(l), 1, 2, 0, 'z', 'z')
		for i, was := range b {
			for octet := range 256 {
				b[i] = byte(octet)
				want, size := told(b)
				gets(t, b, want, size)
			}
			b[i] = was
		}
	}
}

// TestAnyOctets: of any kind, some of them made likely.
func TestAnyOctets(t *testing.T) {
	s := steps(2)
	right := 0
	for range 20000 {
		b := s.octets(s.below(40))
		if len(b) > 0 {
			b[0] = byte(s.below(5))
		}
		for i := 1; i+2 < len(b) && s.below(8) > 0; i += 3 + int(b[i+1]) {
			b[i], b[i+1], b[i+2] = byte(1+s.below(5)), byte(s.below(5)), 0
		}
		want, size := told(b)
		gets(t, b, want, size)
		if len(want) > 1 {
			right++
		}
	}
	if right < 100 {
		t.Errorf("only %d of them were directories of several names", right)
	}
	for size := range 300 {
		gets(t, bytes.Repeat([]byte{255}, size), nil, 0)
	}
	gets(t, bytes.Repeat([]byte{255}, 1<<17), nil, 0)
	gets(t, slices.Concat([]byte{255, 1, 255, 255}, make([]byte, 1<<17)), nil, 0)
}

// TestLongTexts: the second octet of how many a name has counts.
func TestLongTexts(t *testing.T) {
	for _, size := range []int{33, 255, 256, 257, 288, 512 + 1, 65535} {
		b := []byte{1, 1, byte(size), byte(size >> 8)}
		gets(t, append(b, bytes.Repeat([]byte{'x'}, size)...), nil, 0)
		gets(t, append(b, bytes.Repeat([]byte{'x'}, size+9)...), nil, 0)
		gets(t, append(b, bytes.Repeat([]byte{'x'}, size-1)...), nil, 0)
	}
}

// roomy is a list with spare room behind it, filled with a mark.
func roomy(l []api.Named) []api.Named {
	r := slices.Repeat([]api.Named{named("mark", -7)}, len(l)+5)
	copy(r, l)
	return r[:len(l)]
}

// TestHandedInIsntChanged: nor is its spare room.
func TestHandedInIsntChanged(t *testing.T) {
	for _, was := range [][]api.Named{nil, several()[:1], several(), many(63), many(64)} {
		l := roomy(was)
		names.Right(l...)
		names.Put(l)
		for _, name := range append(noNames(), "\x00", "a", "new", "\xff\xff") {
			names.Find(l, name)
			names.Add(l, name)
			names.Drop(l, name)
		}
		for i, n := range was {
			names.Name(l, i)
			names.Add(l, n.Name)
			names.Drop(l, n.Name)
		}
		if !slices.Equal(l[:cap(l)], roomy(was)[:cap(l)]) {
			t.Errorf("P13.4: %v, that was handed in, is now %v", was, l[:cap(l)])
		}
	}
	octets := append(names.Put(several()), 1, 2, 3)
	for size := range octets {
		b := bytes.Clone(octets)
		names.Get(b[:size])
		if !bytes.Equal(b, octets) {
			t.Fatalf("P13.4: Get of %d octets changed them, or those behind", size)
		}
	}
}

// spoil writes over a list, its spare room too.
func spoil(l []api.Named) {
	for i := range l[:cap(l)] {
		l[:cap(l)][i] = named("spoilt", 99)
	}
}

// spoilOctets writes over octets, their spare room too.
func spoilOctets(b []byte) {
	for i := range b[:cap(b)] {
		b[:cap(b)][i] = 0x99
	}
}

// TestNothingIsKept: what was handed in is changed behind the call.
func TestNothingIsKept(t *testing.T) {
	was := several()
	for i := range was {
		l := roomy(was)
		b := names.Put(l)
		octets := bytes.Clone(b)
		without, _ := names.Drop(l, was[i].Name)
		more, _, _ := names.Add(l, was[i].Name+"+")
		list, _ := names.Get(b)
		wantWithout, wantMore := slices.Clone(without), slices.Clone(more)
		spoil(l)
		if !slices.Equal(without, wantWithout) || !slices.Equal(more, wantMore) || !bytes.Equal(b, octets) {
			t.Fatalf("P13.4: answers changed with what was handed in: %v, %v, %q", without, more, b)
		}
		spoilOctets(b)
		if !slices.Equal(list, was) {
			t.Fatalf("P13.4: Get's answer changed with its octets: %v", list)
		}
	}
}

// TestAnswersAreNewMemory: what was answered is changed; neither what was handed in is, nor what is answered then.
func TestAnswersAreNewMemory(t *testing.T) {
	for _, was := range [][]api.Named{nil, several()[:1], several(), many(63), many(64)} {
		l := roomy(was)
		for _, name := range []string{"\x00", "a", "heap", "heap \x00", "heap \xfc", "\xff\xfe", "\xff\xff"} {
			more, _, _ := names.Add(l, name)
			spoil(more)
			without, _ := names.Drop(l, name)
			spoil(without)
		}
		b := names.Put(l)
		octets := bytes.Clone(b)
		list, _ := names.Get(b)
		spoil(list)
		spoilOctets(names.Put(l))
		if !slices.Equal(l[:cap(l)], roomy(was)[:cap(l)]) || !bytes.Equal(b, octets) {
			t.Errorf("P13.4: %v changed to %v, %q to %q with an answer", was, l, octets, b)
		}
		alike(t, was, modelOf(was), "a", "new")
		alike(t, l, modelOf(was))
	}
}

// TestEveryCallEnds: a panic at any of these fails it. Of lists that are no directories nothing else is promised.
func TestEveryCallEnds(t *testing.T) {
	var lists [][]api.Named
	for _, heap := range ends() {
		lists = append(lists, []api.Named{named("b", heap), named("", heap), named("b", 1), named("a", -heap)})
	}
	falling, most := slices.Clone(several()), slices.Repeat([]api.Named{named("a", 1)}, 70000)
	slices.Reverse(falling)
	var rising []api.Named
	for heap := range 1000 {
		rising = append(rising, named(strings.Repeat("r", heap%40), heap))
	}
	lists = append(lists, nil, falling, most, rising, []api.Named{{}}, slices.Repeat([]api.Named{{}}, 64))
	for _, name := range noNames() {
		lists = append(lists, []api.Named{named(name, 1), named(name, 2)})
	}
	for _, l := range lists {
		for _, name := range append(noNames(), "a", "b", "c", "\xff") {
			names.Find(l, name)
			names.Add(l, name)
			names.Drop(l, name)
		}
		for _, heap := range ends() {
			names.Name(l, heap)
		}
		rights(t, l, len(l) == 0)
		names.Get(names.Put(l))
	}
}
