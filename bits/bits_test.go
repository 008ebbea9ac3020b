package bits_test

import (
	"math"
	"slices"
	"testing"

	"mothball/api"
	"mothball/bits"
)

// model is a row of bits as plainly as can be: a bool for each.
type model []bool

func (m model) count() int {
	set := 0
	for _, bit := range m {
		if bit {
			set++
		}
	}
	return set
}

// turn makes a run's bits be as told; false: one of the run isn't there, or is so already.
func (m model) turn(at, k int, to bool) bool {
	if k < 0 || at < 0 || at > len(m) || k > len(m) || at+k > len(m) {
		return false
	}
	for i := at; i < at+k; i++ {
		if m[i] == to {
			return false
		}
	}
	for i := at; i < at+k; i++ {
		m[i] = to
	}
	return true
}

// clearFrom is of each bit how many clear ones begin with it.
func (m model) clearFrom() []int {
	long := make([]int, len(m)+1)
	for i := len(m) - 1; i >= 0; i-- {
		if !m[i] {
			long[i] = long[i+1] + 1
		}
	}
	return long
}

func (m model) find(k int) int {
	if k < 1 {
		return -1
	}
	for at, long := range m.clearFrom() {
		if long >= k {
			return at
		}
	}
	return -1
}

func (m model) next(at int) int {
	for i, bit := range m {
		if bit && i >= at {
			return i
		}
	}
	return -1
}

func (m model) words() []uint64 {
	var ws []uint64
	for i, bit := range m {
		if i%64 == 0 {
			ws = append(ws, 0)
		}
		if bit {
			ws[i/64] += 1 << (i % 64)
		}
	}
	return ws
}

// far are ints that are no bit of any row, the ends of all ints among them.
func far() []int {
	return []int{math.MinInt, math.MinInt + 1, -65537, -65536, -65, -64, -63, -2, -1, 65537, 1 << 31, 1 << 32, 1 << 62, math.MaxInt - 65536, math.MaxInt - 64, math.MaxInt - 1, math.MaxInt}
}

// near are the numbers beside the ends of words, and of a row of n bits; far ones too.
func near(n int) []int {
	at := far()
	for end := 0; end <= n+64; end += 64 {
		at = append(at, end-1, end, end+1)
	}
	return append(at, n-1, n, n+1, n/2)
}

// steps are numbers below most, of many kinds, the same ones every time.
type steps uint32

func (s *steps) below(most int) int {
	*s = *s*1664525 + 1013904223
	return int(uint64(*s) * uint64(most) >> 32)
}

func fresh(t *testing.T, n int) *bits.Row {
	t.Helper()
	r, err := bits.New(n)
	if r == nil || err != api.OK {
		t.Fatalf("P8.1: New(%d): %v", n, err)
	}
	return r
}

func loaded(t *testing.T, n int, ws []uint64) *bits.Row {
	t.Helper()
	r, err := bits.Load(n, ws)
	if r == nil || err != api.OK {
		t.Fatalf("P8.4: Load(%d, %x): %v", n, ws, err)
	}
	return r
}

// alike holds what a row answers against a model: its bits at all numbers, and Find and Next at some.
func alike(t *testing.T, r *bits.Row, m model, some []int) {
	t.Helper()
	if r.Len() != len(m) || r.Count() != m.count() {
		t.Fatalf("P8.1: %d bits, %d set; not %d, %d", r.Len(), r.Count(), len(m), m.count())
	}
	for i, bit := range m {
		if r.Has(i) != bit {
			t.Fatalf("P8.1: Has(%d) of %d bits: %v", i, len(m), r.Has(i))
		}
	}
	if ws := r.Words(); !slices.Equal(ws, m.words()) {
		t.Fatalf("P8.4: Words of %d bits: %x, not %x", len(m), ws, m.words())
	}
	for _, x := range some {
		if (x < 0 || x >= len(m)) && r.Has(x) {
			t.Fatalf("P8.1: Has(%d) of %d bits", x, len(m))
		}
		if got, want := r.Find(x), m.find(x); got != want {
			t.Fatalf("P8.3: Find(%d) of %x: %d, not %d", x, m.words(), got, want)
		}
		if got, want := r.Next(x), m.next(x); got != want {
			t.Fatalf("P8.3: Next(%d) of %x: %d, not %d", x, m.words(), got, want)
		}
	}
}

// turned turns a run of both, and holds the answers against each other.
func turned(t *testing.T, r *bits.Row, m model, at, k int, to bool) {
	t.Helper()
	name, call := "Clear", r.Clear
	if to {
		name, call = "Set", r.Set
	}
	want := api.ErrArg
	if m.turn(at, k, to) {
		want = api.OK
	}
	if err := call(at, k); err != want {
		t.Fatalf("P8.2: %s(%d, %d) of %d bits: %v, not %v", name, at, k, len(m), err, want)
	}
}

func TestExample(t *testing.T) {
	r := fresh(t, 100)
	if err := r.Set(0, 70); err != api.OK {
		t.Errorf("P8.2: Set(0, 70): %v", err)
	}
	if at := r.Find(30); at != 70 {
		t.Errorf("P8.3: Find(30): %d", at)
	}
	if at := r.Find(31); at != -1 {
		t.Errorf("P8.3: Find(31): %d", at)
	}
}

func TestNew(t *testing.T) {
	for _, n := range []int{0, 1, 2, 63, 64, 65, 127, 128, 129, 1000, api.MaxDisk - 1, api.MaxDisk} {
		alike(t, fresh(t, n), make(model, n), []int{-1, 0, 1, n - 1, n, n + 1})
	}
	for _, n := range []int{math.MinInt, -65536, -64, -1, api.MaxDisk + 1, api.MaxDisk + 64, 1 << 32, math.MaxInt} {
		if r, err := bits.New(n); r != nil || err != api.ErrArg {
			t.Errorf("P8.1: New(%d): %v", n, err)
		}
	}
}

func TestNoBits(t *testing.T) {
	r := fresh(t, 0)
	for _, x := range append(far(), 0, 1, 64) {
		for _, y := range append(far(), 0, 1, 64) {
			want := api.ErrArg
			if x == 0 && y == 0 {
				want = api.OK
			}
			if r.Set(x, y) != want || r.Clear(x, y) != want {
				t.Errorf("P8.2: Set(%d, %d) or Clear of no bits isn't %v", x, y, want)
			}
		}
		if r.Has(x) || r.Find(x) != -1 || r.Next(x) != -1 {
			t.Errorf("P8.3: no bits have something at %d", x)
		}
	}
	if r.Len() != 0 || r.Count() != 0 || len(r.Words()) != 0 {
		t.Error("P8.1: no bits have some")
	}
}

// TestSmallRows: all runs of all rows that are so small, and a wrong one on each side.
func TestSmallRows(t *testing.T) {
	for n := range 8 {
		for word := range uint64(1) << n {
			var ws []uint64
			if n > 0 {
				ws = []uint64{word}
			}
			for at := -1; at <= n+1; at++ {
				for k := -1; k <= n+1; k++ {
					for _, to := range []bool{false, true} {
						m := make(model, n)
						for i := range m {
							m[i] = word>>i&1 == 1
						}
						r := loaded(t, n, ws)
						turned(t, r, m, at, k, to)
						alike(t, r, m, []int{-1, 0, 1, 2, 3, 4, 5, 6, 7, 8})
					}
				}
			}
		}
	}
}

// TestRunsAcrossWords: runs that begin and end within words, at their ends, and several words on, in rows that are clear or set but for the run.
func TestRunsAcrossWords(t *testing.T) {
	ends := []int{0, 1, 2, 31, 32, 62, 63, 64, 65, 66, 126, 127, 128, 129, 191, 192, 193, 199, 200}
	for _, n := range []int{63, 64, 65, 128, 200} {
		for _, at := range ends {
			for _, end := range ends {
				if at > end || end > n {
					continue
				}
				some := []int{at - 1, at, at + 1, end - 1, end, end + 1, end - at - 1, end - at, end - at + 1, n - end, n - end + 1}
				r, m := fresh(t, n), make(model, n)
				turned(t, r, m, at, end-at, true)
				alike(t, r, m, some)
				turned(t, r, m, at, end-at, false)
				alike(t, r, m, some)
				turned(t, r, m, 0, n, true)
				turned(t, r, m, at, end-at, false)
				alike(t, r, m, some)
				turned(t, r, m, at, end-at, true)
				alike(t, r, m, some)
			}
		}
	}
}

// TestOneBitIsSoAlready: one bit within, just at, or just beside each end of a run, at which all of the run fails, or none.
func TestOneBitIsSoAlready(t *testing.T) {
	for _, n := range []int{65, 64, 63, 200} {
		for _, at := range []int{0, 1, 5, 62} {
			for _, end := range []int{at + 1, 63, 64, 65, 128, 130, n - 1, n} {
				if end <= at || end > n {
					continue
				}
				for _, odd := range []int{at - 1, at, at + 1, 62, 63, 64, 65, 127, 128, end - 2, end - 1, end} {
					if odd < 0 || odd >= n {
						continue
					}
					r, m := fresh(t, n), make(model, n)
					turned(t, r, m, odd, 1, true)
					turned(t, r, m, at, end-at, true)
					alike(t, r, m, []int{0, 1, odd})

					r, m = fresh(t, n), make(model, n)
					turned(t, r, m, 0, n, true)
					turned(t, r, m, odd, 1, false)
					turned(t, r, m, at, end-at, false)
					alike(t, r, m, []int{0, 1, odd})
				}
			}
		}
	}
}

func TestRunsThatArentThere(t *testing.T) {
	for _, n := range []int{1, 63, 64, 65, 200, api.MaxDisk} {
		for _, full := range []bool{false, true} {
			r := fresh(t, n)
			set := 0
			if full {
				set = n
				r.Set(0, n)
			}
			call, name := r.Set, "Set"
			if full {
				call, name = r.Clear, "Clear"
			}
			fails := func(at, k int) {
				if err := call(at, k); err != api.ErrArg || r.Count() != set {
					t.Errorf("P8.2: %s(%d, %d) of %d bits: %v, %d are set", name, at, k, n, err, r.Count())
				}
			}
			for _, x := range far() {
				fails(0, x)
				fails(n, x)
				fails(n-1, x)
				fails(x, 0)
				fails(x, 1)
				fails(x, n)
				fails(x, -x)
				fails(x, n-x)
				for _, y := range far() {
					fails(x, y)
				}
			}
			fails(0, n+1)
			fails(1, n)
			fails(n, 1)
			fails(n-1, 2)
			fails(n+1, 0)
			fails(n+1, -1)
			fails(n, -1)
			fails(n, -n)
		}
	}
}

func TestRunsOfNoBits(t *testing.T) {
	for _, n := range []int{0, 1, 63, 64, 65, 200} {
		r, m := fresh(t, n), make(model, n)
		for i := 0; i < n; i += 3 {
			turned(t, r, m, i, 1, true)
		}
		for at := range n + 1 {
			if r.Set(at, 0) != api.OK || r.Clear(at, 0) != api.OK {
				t.Fatalf("P8.2: a run of no bits at %d of %d", at, n)
			}
		}
		if r.Set(n+1, 0) != api.ErrArg || r.Clear(n+1, 0) != api.ErrArg || r.Set(-1, 0) != api.ErrArg || r.Clear(-1, 0) != api.ErrArg {
			t.Errorf("P8.2: a run of no bits outside of %d", n)
		}
		alike(t, r, m, near(n))
	}
}

func TestLastBits(t *testing.T) {
	for _, n := range []int{1, 2, 63, 64, 65, 127, 128, 129, 200, api.MaxDisk - 1, api.MaxDisk} {
		r, m := fresh(t, n), make(model, n)
		turned(t, r, m, n/2, n-n/2+1, true)
		turned(t, r, m, n/2, n-n/2, true)
		alike(t, r, m, []int{n / 2, n/2 + 1, n - 1, n, n + 1})
		turned(t, r, m, n-1, 2, false)
		turned(t, r, m, n-1, 1, false)
		alike(t, r, m, []int{1, 2, n/2 - 1, n / 2, n/2 + 1, n - 1, n, n + 1})
		turned(t, r, m, n-1, 1, true)
		alike(t, r, m, []int{1, n / 2, n - 1, n})
	}
}

func TestFind(t *testing.T) {
	for _, n := range []int{1, 63, 64, 65, 200, 4096, api.MaxDisk} {
		r := fresh(t, n)
		if r.Find(1) != 0 || r.Find(n) != 0 || r.Find(n+1) != -1 {
			t.Errorf("P8.3: Find of %d clear bits: %d, %d, %d", n, r.Find(1), r.Find(n), r.Find(n+1))
		}
		for _, k := range append(far(), 0) {
			if at := r.Find(k); at != -1 && (k < 1 || k > n) {
				t.Errorf("P8.3: Find(%d) of %d bits: %d", k, n, at)
			}
		}
		r.Set(0, 1)
		if r.Find(n) != -1 || n > 1 && r.Find(n-1) != 1 {
			t.Errorf("P8.3: Find of %d bits, the first one set", n)
		}
		r.Set(1, n-1)
		if r.Find(1) != -1 || r.Find(0) != -1 || r.Find(n) != -1 {
			t.Errorf("P8.3: Find of %d bits, all set", n)
		}
	}
}

// TestFindTakesTheLeast: of runs that are ever longer the first one that is long enough.
func TestFindTakesTheLeast(t *testing.T) {
	r, m := fresh(t, 20000), make(model, 20000)
	at := 0
	for long := 1; long < 190; long++ {
		turned(t, r, m, at+long, 1+long%5, true)
		at += long + 1 + long%5
	}
	turned(t, r, m, at, 20000-at, true)
	begin := 0
	for long := 1; long < 190; long++ {
		if got := r.Find(long); got != begin {
			t.Errorf("P8.3: Find(%d): %d, not %d", long, got, begin)
		}
		begin += long + 1 + long%5
	}
	if got := r.Find(190); got != -1 {
		t.Errorf("P8.3: Find(190): %d", got)
	}
	// A longer one is no help to one that is first, but too short by a bit.
	turned(t, r, m, 0, 1, true)
	alike(t, r, m, []int{1, 2, 3, 63, 64, 65, 127, 128, 129, 188, 189, 190})
}

func TestNext(t *testing.T) {
	for _, n := range []int{1, 63, 64, 65, 200, api.MaxDisk} {
		r := fresh(t, n)
		for _, at := range near(min(n, 300)) {
			if i := r.Next(at); i != -1 {
				t.Fatalf("P8.3: Next(%d) of %d clear bits: %d", at, n, i)
			}
		}
		r.Set(n-1, 1)
		for _, at := range append(far(), 0, n/2, n-2, n-1, n, n+1) {
			want := n - 1
			if at > n-1 {
				want = -1
			}
			if i := r.Next(at); i != want {
				t.Errorf("P8.3: Next(%d) of %d bits, the last one set: %d", at, n, i)
			}
		}
		r.Clear(n-1, 1)
		r.Set(0, 1)
		if r.Next(0) != 0 || r.Next(-1) != 0 || r.Next(math.MinInt) != 0 || r.Next(1) != -1 || r.Next(n) != -1 {
			t.Errorf("P8.3: Next of %d bits, the first one set", n)
		}
	}
}

// TestManyRuns: rows that fill and empty again, by runs of all lengths, against the model.
func TestManyRuns(t *testing.T) {
	for _, c := range []struct{ n, rounds int }{{1, 50}, {63, 1500}, {64, 1500}, {65, 1500}, {128, 1500}, {129, 1500}, {200, 3000}, {1027, 1500}, {api.MaxDisk, 60}} {
		s := steps(c.n)
		r, m := fresh(t, c.n), make(model, c.n)
		for range c.rounds {
			long := 1 + s.below(min(c.n, 150))
			switch s.below(4) {
			case 0:
				// One that may be turned: where the row says that there is room.
				if at := m.find(long); at >= 0 {
					turned(t, r, m, at, long, true)
				}
			case 1:
				if at := m.next(s.below(c.n)); at >= 0 {
					end := at
					for end < c.n && end < at+long && m[end] {
						end++
					}
					turned(t, r, m, at, end-at, false)
				}
			case 2:
				turned(t, r, m, s.below(c.n+2)-1, s.below(long+2)-1, true)
			case 3:
				turned(t, r, m, s.below(c.n+2)-1, s.below(long+2)-1, false)
			}
			alike(t, r, m, []int{-1, 0, 1, 2, long, s.below(c.n), s.below(c.n), c.n - 1, c.n})
		}
		alike(t, r, m, near(c.n%1000))
		alike(t, loaded(t, c.n, r.Words()), m, near(c.n%1000))
	}
}

func TestWords(t *testing.T) {
	for _, n := range []int{1, 63, 64, 65, 128, 129, 200, api.MaxDisk} {
		r, m := fresh(t, n), make(model, n)
		r.Set(0, n)
		m.turn(0, n, true)
		ws := r.Words()
		if !slices.Equal(ws, m.words()) || len(ws) != (n+63)/64 {
			t.Errorf("P8.4: Words of %d bits, all set: %x", n, ws)
		}
	}
	r := fresh(t, 130)
	for _, at := range []int{0, 63, 64, 66, 129} {
		r.Set(at, 1)
	}
	if ws := r.Words(); !slices.Equal(ws, []uint64{1 | 1<<63, 1 | 1<<2, 1 << 1}) {
		t.Errorf("P8.4: Words: %x", ws)
	}
}

func TestLoad(t *testing.T) {
	s := steps(8)
	for _, n := range []int{0, 1, 2, 63, 64, 65, 127, 128, 129, 200, 1000, api.MaxDisk - 1, api.MaxDisk} {
		m := make(model, n)
		for i := range m {
			m[i] = s.below(3) > 0
		}
		if n > 0 {
			m[n-1] = true
		}
		some := []int{-1, 0, 1, 2, 3, 5, n - 1, n, n + 1}
		r := loaded(t, n, m.words())
		alike(t, r, m, some)
		// A loaded one goes on as any other.
		turned(t, r, m, n-1, 1, false)
		turned(t, r, m, m.find(1), 1, true)
		alike(t, r, m, some)
		alike(t, loaded(t, n, r.Words()), m, some)
	}
	alike(t, loaded(t, 0, []uint64{}), model{}, []int{0, 1})
}

func TestLoadOfWrongWords(t *testing.T) {
	fails := func(n int, ws []uint64) {
		t.Helper()
		if r, err := bits.Load(n, ws); r != nil || err != api.ErrArg {
			t.Errorf("P8.4: Load(%d, %d words): %v", n, len(ws), err)
		}
	}
	for _, n := range []int{math.MinInt, -64, -1, api.MaxDisk + 1, api.MaxDisk + 64, math.MaxInt} {
		fails(n, nil)
		fails(n, make([]uint64, 1))
		fails(n, make([]uint64, api.MaxDisk/64))
		fails(n, make([]uint64, api.MaxDisk/64+1))
	}
	for _, n := range []int{0, 1, 63, 64, 65, 127, 128, 129, 200, api.MaxDisk - 1, api.MaxDisk} {
		need := (n + 63) / 64
		fails(n, make([]uint64, need+1))
		fails(n, make([]uint64, need+64))
		fails(n, make([]uint64, need, need+1)[:need+1])
		if need > 0 {
			fails(n, make([]uint64, need-1))
		}
		if need > 1 {
			fails(n, nil)
		}
		for behind := n; behind < 64*need; behind++ {
			ws := make([]uint64, need)
			ws[need-1] = 1 << (behind % 64)
			fails(n, ws)
			for i := range ws {
				ws[i] = math.MaxUint64
			}
			fails(n, ws)
		}
	}
	// As many octets or bits as are right are not as many words.
	fails(64, make([]uint64, 8))
	fails(64, make([]uint64, 64))
}

func TestMemory(t *testing.T) {
	r := fresh(t, 130)
	r.Set(60, 10)
	want := []uint64{15 << 60, 63, 0}
	ws, others := r.Words(), r.Words()
	for i := range ws {
		ws[i] = math.MaxUint64
	}
	_ = append(others[:1], 7, 7)
	if !slices.Equal(r.Words(), want) || r.Count() != 10 || r.Next(70) != -1 {
		t.Errorf("P8.4: a change of Words' answer changed the row: %x", r.Words())
	}

	room := []uint64{15 << 60, 63, 0, 5, 6}
	x := loaded(t, 130, room[:3])
	y := loaded(t, 130, room[:3])
	if !slices.Equal(room, []uint64{15 << 60, 63, 0, 5, 6}) {
		t.Errorf("P8.4: Load changed what was handed in: %x", room)
	}
	for i := range room {
		room[i] = math.MaxUint64
	}
	if !slices.Equal(x.Words(), want) || x.Count() != 10 {
		t.Errorf("P8.4: a change of what was loaded changed the row: %x", x.Words())
	}
	x.Set(0, 60)
	x.Clear(60, 10)
	if !slices.Equal(room, []uint64{math.MaxUint64, math.MaxUint64, math.MaxUint64, math.MaxUint64, math.MaxUint64}) {
		t.Errorf("P8.4: Set or Clear changed what was loaded: %x", room)
	}
	if !slices.Equal(y.Words(), want) {
		t.Errorf("P8.4: one row's change changed another: %x", y.Words())
	}

	kept := y.Words()
	y.Set(0, 60)
	y.Clear(60, 10)
	if !slices.Equal(kept, want) {
		t.Errorf("P8.4: the row's change changed Words' answer: %x", kept)
	}
}

// TestAskingChangesNothing: the calls that only tell leave the row as it is.
func TestAskingChangesNothing(t *testing.T) {
	r, m := fresh(t, 200), make(model, 200)
	turned(t, r, m, 30, 100, true)
	for _, x := range near(200) {
		r.Len()
		r.Has(x)
		r.Count()
		r.Find(x)
		r.Next(x)
		r.Words()
	}
	alike(t, r, m, near(200))
}

// TestEveryCallEnds: a panic at any of these fails it.
func TestEveryCallEnds(t *testing.T) {
	for _, n := range near(200) {
		bits.New(n)
		bits.Load(n, nil)
		bits.Load(n, []uint64{1})
		bits.Load(n, make([]uint64, 4))
	}
	for _, n := range []int{0, 1, 63, 64, 65, 200, api.MaxDisk} {
		r := fresh(t, n)
		for _, x := range near(200) {
			r.Has(x)
			r.Find(x)
			r.Next(x)
			for _, y := range near(200) {
				r.Set(x, y)
				r.Clear(x, y)
			}
		}
	}
}
