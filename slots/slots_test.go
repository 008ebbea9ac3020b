package slots_test

import (
	"math"
	"slices"
	"testing"

	"mothball/api"
	"mothball/slots"
)

// model is a board as plainly as can be: of each slot, is it taken?
type model []bool

func (m model) free() int {
	free := 0
	for _, taken := range m {
		if !taken {
			free++
		}
	}
	return free
}

func (m model) clusters() []int {
	var all []int
	for at := 0; at < len(m); at += 64 {
		all = append(all, m[at:min(at+64, len(m))].free())
	}
	return all
}

// take is the least free slot of the cluster with the fewest free ones, which is taken; -1: none is free.
func (m model) take() int {
	all := m.clusters()
	for free := 1; free <= 64; free++ {
		c := slices.Index(all, free)
		if c < 0 {
			continue
		}
		for slot := 64 * c; ; slot++ {
			if !m[slot] {
				m[slot] = true
				return slot
			}
		}
	}
	return -1
}

// run is the least slot from which on k are free, which are taken; -1: there are none.
func (m model) run(k int) int {
	free := 0
	for slot, taken := range m {
		free++
		if taken {
			free = 0
		}
		if free == k {
			for i := slot - k + 1; i <= slot; i++ {
				m[i] = true
			}
			return slot - k + 1
		}
	}
	return -1
}

// give makes slots free; false: one isn't taken, or is told twice.
func (m model) give(list []int) bool {
	for i, slot := range list {
		if slot < 0 || slot >= len(m) || !m[slot] || slices.Contains(list[:i], slot) {
			return false
		}
	}
	for _, slot := range list {
		m[slot] = false
	}
	return true
}

// taken are the slots that are.
func (m model) taken() []int {
	var list []int
	for slot, is := range m {
		if is {
			list = append(list, slot)
		}
	}
	return list
}

// far are ints that are no slot of any board, the ends of all ints among them.
func far() []int {
	return []int{math.MinInt, math.MinInt + 1, -1 << 32, -65537, -65536, -65, -64, -63, -2, -1, 65536, 65537, 1 << 31, 1 << 32, 1<<32 + 1, 1 << 62, math.MaxInt - 64, math.MaxInt - 1, math.MaxInt}
}

// near are the numbers beside the ends of clusters, and of a board of n slots; far ones too.
func near(n int) []int {
	at := far()
	for end := 0; end <= n+64; end += 64 {
		at = append(at, end-1, end, end+1)
	}
	return append(at, n-1, n, n+1, n/2)
}

// sizes are boards with clusters that are full, and one slot more or less.
func sizes() []int {
	return []int{1, 2, 63, 64, 65, 100, 127, 128, 129, 130, 192, 200, 1000}
}

// steps are numbers below most, of many kinds, the same ones every time.
type steps uint32

func (s *steps) below(most int) int {
	*s = *s*1664525 + 1013904223
	return int(uint64(*s) * uint64(most) >> 32)
}

// shuffled are the numbers below n, in some order.
func (s *steps) shuffled(n int) []int {
	list := make([]int, n)
	for i := range list {
		j := s.below(i + 1)
		list[i] = list[j]
		list[j] = i
	}
	return list
}

// row are the numbers from one on, ahead of an end.
func row(from, end int) []int {
	var list []int
	for i := from; i < end; i++ {
		list = append(list, i)
	}
	return list
}

func fresh(t *testing.T, n int, taken ...int) (*slots.Board, model) {
	t.Helper()
	b, err := slots.New(n, taken...)
	if b == nil || err != api.OK {
		t.Fatalf("P9.1: New(%d, %v): %v", n, taken, err)
	}
	m := make(model, n)
	for _, slot := range taken {
		m[slot] = true
	}
	alike(t, b, m)
	return b, m
}

// alike holds what a board tells against a model.
func alike(t *testing.T, b *slots.Board, m model) {
	t.Helper()
	if b.Size() != len(m) || b.Free() != m.free() {
		t.Fatalf("P9.1: %d slots, %d free; not %d, %d", b.Size(), b.Free(), len(m), m.free())
	}
	for slot, taken := range m {
		if b.Is(slot) != taken {
			t.Fatalf("P9.1: Is(%d) of %d slots: %v", slot, len(m), b.Is(slot))
		}
	}
	if b.Is(-1) || b.Is(len(m)) {
		t.Fatalf("P9.1: a slot beside %d slots is taken", len(m))
	}
	if got := b.Clusters(); !slices.Equal(got, m.clusters()) {
		t.Fatalf("P9.1: Clusters: %v, not %v", got, m.clusters())
	}
}

// same holds a slot that was answered against the model's; -1 is ErrSpace.
func same(t *testing.T, call string, got int, err api.Errno, want int) {
	t.Helper()
	wantErr := api.OK
	if want < 0 {
		want, wantErr = 0, api.ErrSpace
	}
	if got != want || err != wantErr {
		t.Fatalf("P9.2: %s: %d, %v; not %d, %v", call, got, err, want, wantErr)
	}
}

func takes(t *testing.T, b *slots.Board, m model) int {
	t.Helper()
	got, err := b.Take()
	want := m.take()
	same(t, "Take", got, err, want)
	return want
}

func runs(t *testing.T, b *slots.Board, m model, k int) int {
	t.Helper()
	got, err := b.Run(k)
	want := m.run(k)
	same(t, "Run", got, err, want)
	return want
}

func gives(t *testing.T, b *slots.Board, m model, list ...int) {
	t.Helper()
	want := api.ErrArg
	if m.give(list) {
		want = api.OK
	}
	if err := b.Give(list...); err != want {
		t.Fatalf("P9.3: Give(%v): %v, not %v", list, err, want)
	}
}

func TestExample(t *testing.T) {
	b, err := slots.New(100)
	if b == nil || err != api.OK {
		t.Fatalf("P9.1: New(100): %v", err)
	}
	if at, err := b.Run(40); at != 0 || err != api.OK {
		t.Errorf("P9.2: Run(40): %d, %v", at, err)
	}
	if all := b.Clusters(); !slices.Equal(all, []int{24, 36}) {
		t.Errorf("P9.1: Clusters: %v", all)
	}
	if slot, err := b.Take(); slot != 40 || err != api.OK {
		t.Errorf("P9.2: Take: %d, %v", slot, err)
	}
}

func TestNew(t *testing.T) {
	for _, n := range append(sizes(), api.MaxDisk-1, api.MaxDisk) {
		b, _ := fresh(t, n)
		for _, slot := range near(min(n, 200)) {
			if b.Is(slot) {
				t.Errorf("P9.1: Is(%d) of %d free slots", slot, n)
			}
		}
		fresh(t, n, 0)
		fresh(t, n, n-1)
		fresh(t, n, row(0, n)...)
		fresh(t, n, row(n/2, n)...)
	}
	for _, n := range []int{math.MinInt, -65536, -64, -1, 0, api.MaxDisk + 1, api.MaxDisk + 64, 1 << 32, 1<<32 + 1, math.MaxInt} {
		for _, taken := range [][]int{nil, {}, {0}, {0, 1}, {-1}, {n - 1}} {
			if b, err := slots.New(n, taken...); b != nil || err != api.ErrArg {
				t.Errorf("P9.1: New(%d, %v): %v", n, taken, err)
			}
		}
	}
}

// TestTaken: which slots are taken at first, in whichever order they are told.
func TestTaken(t *testing.T) {
	s := steps(9)
	for _, n := range append(sizes(), api.MaxDisk) {
		all := s.shuffled(n)
		for _, k := range []int{0, 1, n / 3, n - 1, n} {
			b, m := fresh(t, n, all[:k]...)
			for range 70 {
				takes(t, b, m)
			}
			alike(t, b, m)
		}
	}
	b, _ := fresh(t, 65, 64, 0, 63)
	if !b.Is(0) || !b.Is(63) || !b.Is(64) || b.Is(1) || b.Is(62) || b.Free() != 62 || !slices.Equal(b.Clusters(), []int{62, 0}) {
		t.Errorf("P9.1: New(65, 64, 0, 63): %v", b.Clusters())
	}
	none := []int{}
	fresh(t, 65, none...)
}

func TestTakenThatIsWrong(t *testing.T) {
	fails := func(n int, taken ...int) {
		t.Helper()
		if b, err := slots.New(n, taken...); b != nil || err != api.ErrArg {
			t.Errorf("P9.1: New(%d, %v): %v", n, taken, err)
		}
	}
	for _, n := range append(sizes(), api.MaxDisk) {
		for _, slot := range append(far(), n, n+1, n+64) {
			if slot >= 0 && slot < n {
				continue
			}
			fails(n, slot)
			fails(n, 0, slot)
			fails(n, slot, 0)
			fails(n, n-1, slot)
			fails(n, slot, slot)
		}
		for _, slot := range []int{0, n / 2, n - 1} {
			fails(n, slot, slot)
			fails(n, slot, slot, slot)
			fails(n, append(row(0, n), slot)...)
		}
		fails(n, append(row(0, n), n)...)
		fails(n, append(row(0, n), row(0, n)...)...)
	}
	fails(200, 3, 190, 77, 3)
	fails(200, 190, 3, 77, 3, 4)
}

// TestTakeUntilNoneIsFree: each slot once, and no more.
func TestTakeUntilNoneIsFree(t *testing.T) {
	for _, n := range sizes() {
		b, m := fresh(t, n)
		seen := make([]bool, n)
		for range n {
			slot := takes(t, b, m)
			if seen[slot] {
				t.Fatalf("P9.4: slot %d of %d is taken twice", slot, n)
			}
			seen[slot] = true
			alike(t, b, m)
		}
		for range 3 {
			takes(t, b, m)
			runs(t, b, m, 1)
			runs(t, b, m, 64)
			alike(t, b, m)
		}
		gives(t, b, m, n/2)
		takes(t, b, m)
		takes(t, b, m)
		alike(t, b, m)
	}
}

func TestTakeOfAGreatBoard(t *testing.T) {
	for _, n := range []int{api.MaxDisk, api.MaxDisk - 1, api.MaxDisk - 63} {
		b, _ := fresh(t, n)
		// The last cluster has as few or fewer slots as any, the others come in their order.
		last := n - 1 - (n-1)%64
		order := append(row(last, n), row(0, last)...)
		if n == api.MaxDisk {
			order = row(0, n)
		}
		for _, want := range order {
			if slot, err := b.Take(); slot != want || err != api.OK {
				t.Fatalf("P9.2: Take of %d slots: %d, %v; not %d", n, slot, err, want)
			}
		}
		if slot, err := b.Take(); slot != 0 || err != api.ErrSpace || b.Free() != 0 {
			t.Errorf("P9.2: Take of %d slots, all taken: %d, %v", n, slot, err)
		}
	}
}

// filled is a board's taken slots, such that cluster c of full ones has so many free, the first ones of it taken.
func filled(free ...int) []int {
	var taken []int
	for c, k := range free {
		taken = append(taken, row(64*c, 64*c+64-k)...)
	}
	return taken
}

// TestTakeOfTheFullestCluster: of all small choices of how many are free in each of four clusters.
func TestTakeOfTheFullestCluster(t *testing.T) {
	some := []int{0, 1, 2, 3, 63, 64}
	for _, first := range some {
		for _, second := range some {
			for _, third := range some {
				for _, fourth := range some {
					b, m := fresh(t, 256, filled(first, second, third, fourth)...)
					for range 5 {
						takes(t, b, m)
						alike(t, b, m)
					}
				}
			}
		}
	}
	for _, c := range []struct {
		free []int
		want int
	}{
		{[]int{5, 3, 4}, 64 + 61},
		{[]int{5, 0, 4}, 128 + 60},
		{[]int{3, 3, 3}, 61},
		{[]int{0, 0, 64}, 128},
		{[]int{64, 64, 64}, 0},
		{[]int{64, 63, 63}, 64 + 1},
		{[]int{2, 64, 1}, 128 + 63},
	} {
		b, _ := fresh(t, 192, filled(c.free...)...)
		if slot, err := b.Take(); slot != c.want || err != api.OK {
			t.Errorf("P9.2: Take of clusters with %v free: %d, %v; not %d", c.free, slot, err, c.want)
		}
	}
}

// TestLastCluster: it may have fewer slots than the others, and these alone count.
func TestLastCluster(t *testing.T) {
	for _, c := range []struct {
		n, want int
		free    []int
	}{
		{63, 0, []int{63}},
		{64, 0, []int{64}},
		{65, 64, []int{64, 1}},
		{127, 64, []int{64, 63}},
		{128, 0, []int{64, 64}},
		{129, 128, []int{64, 64, 1}},
		{1, 0, []int{1}},
	} {
		b, _ := fresh(t, c.n)
		if all := b.Clusters(); !slices.Equal(all, c.free) {
			t.Errorf("P9.1: Clusters of %d: %v", c.n, all)
		}
		if slot, err := b.Take(); slot != c.want || err != api.OK {
			t.Errorf("P9.2: Take of %d slots: %d, %v; not %d", c.n, slot, err, c.want)
		}
	}
	// The one of the last cluster is taken: it isn't any more the one with the fewest.
	b, m := fresh(t, 65, 64)
	if takes(t, b, m) != 0 {
		t.Error("P9.2: Take of New(65, 64)")
	}
	// As few free ones as in the last one: the first of both.
	b, m = fresh(t, 100, row(0, 28)...)
	if takes(t, b, m) != 28 {
		t.Error("P9.2: Take of clusters with 36 free each")
	}
}

// TestTakeOfTheLeastSlot: of the cluster the least one that is free, whichever was given last.
func TestTakeOfTheLeastSlot(t *testing.T) {
	b, m := fresh(t, 128, row(0, 128)...)
	for _, slot := range []int{70, 127, 64, 90} {
		gives(t, b, m, slot)
	}
	for _, want := range []int{64, 70, 90, 127} {
		if slot := takes(t, b, m); slot != want {
			t.Errorf("P9.2: Take: %d, not %d", slot, want)
		}
	}
	// Those given first are no better than those given last, in any order.
	s := steps(3)
	for range 50 {
		order := s.shuffled(192)
		b, m := fresh(t, 192, order...)
		for _, slot := range order[:1+s.below(191)] {
			gives(t, b, m, slot)
		}
		for range 192 {
			takes(t, b, m)
		}
		alike(t, b, m)
	}
}

func TestRun(t *testing.T) {
	for _, n := range sizes() {
		for k := 1; k <= 64; k++ {
			b, m := fresh(t, n)
			for range n/k + 2 {
				runs(t, b, m, k)
				alike(t, b, m)
			}
		}
	}
	// The least of those that are long enough; those that are too short are left.
	b, m := fresh(t, 200, 3, 9, 20, 41)
	for _, c := range []struct{ k, at int }{{4, 4}, {1, 0}, {3, 10}, {2, 1}, {20, 21}, {64, 42}, {64, 106}, {31, -1}, {30, 170}, {8, -1}, {7, 13}, {2, -1}, {1, 8}, {1, -1}} {
		if at := runs(t, b, m, c.k); at != c.at {
			t.Errorf("P9.2: Run(%d): %d, not %d", c.k, at, c.at)
		}
		alike(t, b, m)
	}
}

func TestRunOfWrongLengths(t *testing.T) {
	for _, n := range append(sizes(), api.MaxDisk) {
		for _, taken := range [][]int{nil, {n / 2}, row(0, n)} {
			b, m := fresh(t, n, taken...)
			for _, k := range append(far(), 0, 65, 66, 128, n+64, -n) {
				if k >= 1 && k <= 64 {
					continue
				}
				if at, err := b.Run(k); at != 0 || err != api.ErrArg {
					t.Errorf("P9.2: Run(%d) of %d slots: %d, %v", k, n, at, err)
				}
			}
			alike(t, b, m)
		}
	}
}

func TestRunsThatArentThere(t *testing.T) {
	for _, n := range []int{1, 2, 30, 63} {
		b, m := fresh(t, n)
		for k := n + 1; k <= 64; k++ {
			if at, err := b.Run(k); at != 0 || err != api.ErrSpace {
				t.Errorf("P9.2: Run(%d) of %d slots: %d, %v", k, n, at, err)
			}
		}
		alike(t, b, m)
	}
	// Many are free, but no two beside each other.
	var odd []int
	for slot := 1; slot < 200; slot += 2 {
		odd = append(odd, slot)
	}
	b, m := fresh(t, 200, odd...)
	for k := 2; k <= 64; k++ {
		runs(t, b, m, k)
	}
	alike(t, b, m)
	runs(t, b, m, 1)
	takes(t, b, m)
	alike(t, b, m)
}

// TestRunOverABorder: a run may go from one cluster to the next; each has as many fewer as are its own.
func TestRunOverABorder(t *testing.T) {
	b, m := fresh(t, 192, row(0, 60)...)
	if at := runs(t, b, m, 10); at != 60 {
		t.Errorf("P9.2: Run(10): %d", at)
	}
	if all := b.Clusters(); !slices.Equal(all, []int{0, 58, 64}) {
		t.Errorf("P9.1: Clusters: %v", all)
	}
	alike(t, b, m)
	for k := 1; k <= 64; k++ {
		for at := 0; at <= 192-k; at++ {
			b, m := fresh(t, 192, slices.Concat(row(0, at), row(at+k, 192))...)
			if got := runs(t, b, m, k); got != at {
				t.Fatalf("P9.2: Run(%d): %d, not %d", k, got, at)
			}
			if b.Free() != 0 || !slices.Equal(b.Clusters(), []int{0, 0, 0}) {
				t.Fatalf("P9.2: behind Run(%d) at %d: %v", k, at, b.Clusters())
			}
			if k < 64 {
				b, m = fresh(t, 192, slices.Concat(row(0, at), row(at+k, 192))...)
				runs(t, b, m, k+1)
				alike(t, b, m)
			}
		}
	}
}

func TestRunAtTheEnd(t *testing.T) {
	for _, n := range append(sizes(), api.MaxDisk) {
		for _, k := range []int{1, 2, 63, 64} {
			if k > n {
				continue
			}
			b, m := fresh(t, n, row(0, n-k)...)
			if at := runs(t, b, m, k); at != n-k {
				t.Errorf("P9.2: Run(%d) of %d slots: %d", k, n, at)
			}
			alike(t, b, m)
			b, m = fresh(t, n, row(0, n-k+1)...)
			runs(t, b, m, k)
			alike(t, b, m)
		}
	}
}

func TestGive(t *testing.T) {
	for _, n := range append(sizes(), api.MaxDisk) {
		b, m := fresh(t, n, row(0, n)...)
		gives(t, b, m)
		gives(t, b, m, []int{}...)
		alike(t, b, m)
		gives(t, b, m, n-1)
		alike(t, b, m)
		gives(t, b, m, row(0, n-1)...)
		alike(t, b, m)
		gives(t, b, m, 0)
		gives(t, b, m)
		alike(t, b, m)
	}
	// What was taken in one way or another, and a part of a run too.
	b, m := fresh(t, 130, 3, 128)
	takes(t, b, m)
	runs(t, b, m, 64)
	gives(t, b, m, 128, 3, 129, 67, 4, 64, 63)
	alike(t, b, m)
	gives(t, b, m, 4)
	takes(t, b, m)
	runs(t, b, m, 2)
	alike(t, b, m)
}

// TestGiveOfWrongSlots: one that can't be given, ahead of others, among them, or behind them: nothing is given.
func TestGiveOfWrongSlots(t *testing.T) {
	for _, n := range []int{2, 64, 65, 130, 200} {
		taken := row(0, n/2)
		b, m := fresh(t, n, taken...)
		fails := func(list ...int) {
			t.Helper()
			if err := b.Give(list...); err != api.ErrArg {
				t.Fatalf("P9.3: Give(%v) of %d slots: %v", list, n, err)
			}
			alike(t, b, m)
		}
		for _, slot := range append(far(), n/2, n-1, n, n+1, n+64) {
			fails(slot)
			fails(slot, 0)
			fails(0, slot)
			fails(slot, slot)
			fails(append(taken[:len(taken):len(taken)], slot)...)
			fails(append([]int{slot}, taken...)...)
			for i := range taken {
				fails(slices.Insert(slices.Clone(taken), i, slot)...)
			}
		}
		for _, slot := range taken {
			fails(slot, slot)
			fails(slot, slot, slot)
			fails(append(taken[:len(taken):len(taken)], slot)...)
			fails(append([]int{slot}, taken...)...)
		}
		fails(append(taken[:len(taken):len(taken)], taken...)...)
		gives(t, b, m, taken...)
		alike(t, b, m)
		for _, slot := range taken {
			fails(slot)
		}
	}
}

// TestErrorsChangeNothing: what comes behind them is as if they hadn't been.
func TestErrorsChangeNothing(t *testing.T) {
	b, m := fresh(t, 200, row(20, 170)...)
	b.Give(30, 40, 200)
	b.Give(30, 30)
	b.Give(100, 5)
	b.Give(math.MinInt)
	b.Run(0)
	b.Run(65)
	if _, err := b.Run(31); err != api.ErrSpace {
		t.Fatalf("P9.2: Run(31): %v", err)
	}
	alike(t, b, m)
	for range 60 {
		takes(t, b, m)
	}
	alike(t, b, m)
}

// TestNothingIsTakenTwice: what the board answers is nobody's, till it is given.
func TestNothingIsTakenTwice(t *testing.T) {
	s := steps(94)
	b, m := fresh(t, 300, row(100, 140)...)
	owned := make(map[int]bool)
	for slot := range 40 {
		owned[100+slot] = true
	}
	own := func(at, k int, err api.Errno) {
		for slot := at; err == api.OK && slot < at+k; slot++ {
			if owned[slot] {
				t.Fatalf("P9.4: slot %d is taken again", slot)
			}
			owned[slot] = true
		}
	}
	for range 5000 {
		switch s.below(4) {
		case 0, 1:
			at, err := b.Take()
			own(at, 1, err)
		case 2:
			k := 1 + s.below(64)
			at, err := b.Run(k)
			own(at, k, err)
		case 3:
			at := s.below(300)
			for slot := at; slot < min(at+1+s.below(80), 300); slot++ {
				if owned[slot] && b.Give(slot) != api.OK {
					t.Fatalf("P9.3: slot %d can't be given", slot)
				}
				delete(owned, slot)
			}
		}
		if len(owned)+b.Free() != len(m) {
			t.Fatalf("P9.4: %d are taken, %d are free, of %d", len(owned), b.Free(), len(m))
		}
	}
}

// TestManyCalls: boards that fill and empty again, by calls of all kinds, against the model.
func TestManyCalls(t *testing.T) {
	for _, c := range []struct{ n, rounds int }{{1, 100}, {63, 1000}, {64, 1000}, {65, 1000}, {130, 2000}, {200, 3000}, {1000, 2000}, {api.MaxDisk, 50}} {
		s := steps(c.n)
		b, m := fresh(t, c.n)
		// It fills for a while, and empties for a while.
		for round := range c.rounds {
			few := 8
			if round/100%2 == 1 {
				few = 3
			}
			switch s.below(few) {
			case 0:
				list := m.taken()
				for i := range list {
					j := s.below(i + 1)
					list[i], list[j] = list[j], list[i]
				}
				list = list[:s.below(len(list)+1)]
				if s.below(4) == 0 {
					list = append(list, s.below(c.n))
				}
				gives(t, b, m, list[:min(len(list), 100)]...)
			case 1:
				gives(t, b, m, s.below(c.n), s.below(c.n))
			case 2, 3, 4:
				takes(t, b, m)
			default:
				runs(t, b, m, 1+s.below(64)*s.below(64)/64)
			}
			alike(t, b, m)
		}
	}
}

func TestMemory(t *testing.T) {
	room := []int{3, 128, 64, 77, 78}
	b, m := fresh(t, 130, room[:3]...)
	other, _ := fresh(t, 130, room[:3]...)
	if !slices.Equal(room, []int{3, 128, 64, 77, 78}) {
		t.Errorf("P9.4: New changed what was handed in: %v", room)
	}
	for i := range room {
		room[i] = 9
	}
	alike(t, b, m)
	takes(t, b, m)
	runs(t, b, m, 5)
	if !slices.Equal(room, []int{9, 9, 9, 9, 9}) {
		t.Errorf("P9.4: a later call changed what was handed in: %v", room)
	}

	give := []int{128, 3, 1, 2}
	gives(t, b, m, give[:2]...)
	if !slices.Equal(give, []int{128, 3, 1, 2}) {
		t.Errorf("P9.4: Give changed what was handed in: %v", give)
	}
	give[0], give[1] = 64, 64
	alike(t, b, m)
	gives(t, b, m, give[:3]...)
	if !slices.Equal(give, []int{64, 64, 1, 2}) {
		t.Errorf("P9.4: Give that fails changed what was handed in: %v", give)
	}
	alike(t, b, m)

	all, again := b.Clusters(), b.Clusters()
	kept := slices.Clone(again)
	for i := range all {
		all[i] = 0
	}
	_ = append(all[:1], 1, 1)
	if !slices.Equal(again, kept) {
		t.Errorf("P9.4: two answers of Clusters share memory: %v", again)
	}
	alike(t, b, m)
	for range 3 {
		takes(t, b, m)
	}
	if !slices.Equal(again, kept) {
		t.Errorf("P9.4: a later call changed Clusters' answer: %v", again)
	}
	if !other.Is(3) || other.Free() != 127 || !slices.Equal(other.Clusters(), []int{63, 63, 1}) {
		t.Errorf("P9.4: one board's change changed another: %v", other.Clusters())
	}
}

// TestAskingChangesNothing: the calls that only tell leave the board as it is.
func TestAskingChangesNothing(t *testing.T) {
	b, m := fresh(t, 200, row(30, 130)...)
	for _, slot := range near(200) {
		b.Size()
		b.Free()
		b.Is(slot)
		b.Clusters()
	}
	alike(t, b, m)
	for range 100 {
		takes(t, b, m)
	}
	alike(t, b, m)
}

// TestEveryCallEnds: a panic at any of these fails it.
func TestEveryCallEnds(t *testing.T) {
	for _, n := range near(200) {
		slots.New(n)
		for _, slot := range near(200) {
			slots.New(n, slot)
			slots.New(n, slot, 0)
		}
	}
	for _, n := range []int{1, 63, 64, 65, 200, api.MaxDisk} {
		b, _ := fresh(t, n)
		for _, x := range near(200) {
			b.Is(x)
			b.Run(x)
			b.Take()
			b.Give(x)
			for _, y := range near(200) {
				b.Give(x, y)
			}
		}
		b.Give()
	}
}
