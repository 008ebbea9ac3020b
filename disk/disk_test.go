package disk_test

import (
	"bytes"
	"math"
	"slices"
	"testing"

	"mothball/api"
	"mothball/disk"
)

// filled is so many sectors, of one octet.
func filled(octet byte, n int) []byte { return bytes.Repeat([]byte{octet}, n*api.Sector) }

// join is pieces, one behind the other.
func join(pieces ...[]byte) []byte { return bytes.Join(pieces, nil) }

// made is a new disk.
func made(t *testing.T, n int) *disk.Disk {
	t.Helper()
	d, err := disk.New(n)
	if d == nil || err != api.OK {
		t.Fatalf("P3.1: New(%d): %v", n, err)
	}
	return d
}

// loaded is the disk of an image.
func loaded(t *testing.T, image []byte) *disk.Disk {
	t.Helper()
	d, err := disk.Load(image)
	if d == nil || err != api.OK {
		t.Fatalf("P3.1: Load of %d octets: %v", len(image), err)
	}
	return d
}

// wants fails if a call's answer isn't the one that is asked for.
func wants(t *testing.T, promise string, got, want api.Errno) {
	t.Helper()
	if got != want {
		t.Errorf("%s: answered %d, not %d", promise, int(got), int(want))
	}
}

// has fails if a disk's image isn't the one that is asked for.
func has(t *testing.T, promise string, d *disk.Disk, want []byte) {
	t.Helper()
	got := d.Image()
	if len(got) != len(want) {
		t.Errorf("%s: an image of %d octets, not of %d", promise, len(got), len(want))
		return
	}
	for i := range got {
		if got[i] != want[i] {
			t.Errorf("%s: octet %d is %d, not %d", promise, i, got[i], want[i])
			return
		}
	}
}

func TestNew(t *testing.T) {
	for _, n := range []int{0, -1, -2, -api.MaxDisk, api.MaxDisk + 1, 1 << 40, math.MaxInt, math.MinInt} {
		if d, err := disk.New(n); d != nil || err != api.ErrArg {
			t.Errorf("P3.1: New(%d): %v", n, err)
		}
	}
	for _, n := range []int{1, 2, 3, 100, api.MaxDisk - 1, api.MaxDisk} {
		d := made(t, n)
		if d.Size() != n || d.Waiting() != 0 || d.Writes() != 0 {
			t.Errorf("P3.1: New(%d): %d sectors, %d wait, %d written", n, d.Size(), d.Waiting(), d.Writes())
		}
		has(t, "P3.1", d, make([]byte, n*api.Sector))
		if b, err := d.Read(0, n); err != api.OK || !bytes.Equal(b, make([]byte, n*api.Sector)) {
			t.Errorf("P3.1: New(%d): Read: %v", n, err)
		}
	}
}

func TestLoad(t *testing.T) {
	for _, n := range []int{0, 1, 64, 127, 129, 255, 257, 1000, api.MaxDisk*api.Sector - 1, api.MaxDisk*api.Sector + 1, (api.MaxDisk + 1) * api.Sector} {
		if d, err := disk.Load(make([]byte, n)); d != nil || err != api.ErrArg {
			t.Errorf("P3.1: Load of %d octets: %v", n, err)
		}
	}
	if d, err := disk.Load(nil); d != nil || err != api.ErrArg {
		t.Errorf("P3.1: Load(nil): %v", err)
	}
	for _, n := range []int{1, 2, 7, api.MaxDisk} {
		image := make([]byte, n*api.Sector)
		for i := range image {
			image[i] = byte(i*7 + i>>8)
		}
		d := loaded(t, image)
		if d.Size() != n || d.Waiting() != 0 || d.Writes() != 0 {
			t.Errorf("P3.1: Load of %d: %d sectors, %d wait, %d written", n, d.Size(), d.Waiting(), d.Writes())
		}
		has(t, "P3.1", d, image)
		if kept := d.Crash(api.Crash{Keep: []int{0, 1}, Torn: 0, Cut: 5}); kept != 0 {
			t.Errorf("P3.1: a loaded disk kept %d", kept)
		}
		has(t, "P3.1: what was loaded is safe", d, image)
	}
}

func TestImage(t *testing.T) {
	d := loaded(t, join(filled(1, 1), filled(2, 1), filled(3, 1)))
	wants(t, "P3.2", d.Write(1, filled(4, 1)), api.OK)
	has(t, "P3.1: writes that wait", d, join(filled(1, 1), filled(4, 1), filled(3, 1)))
	wants(t, "P3.2", d.Write(1, filled(5, 2)), api.OK)
	has(t, "P3.1: the latest write", d, join(filled(1, 1), filled(5, 2)))
	d.Limit(0)
	has(t, "P3.1: with the power off", d, join(filled(1, 1), filled(5, 2)))
	if d.Size() != 3 || d.Waiting() != 3 || d.Writes() != 3 {
		t.Errorf("P3.2: with the power off: %d sectors, %d wait, %d written", d.Size(), d.Waiting(), d.Writes())
	}
}

func TestReadRange(t *testing.T) {
	image := join(filled(1, 1), filled(2, 1), filled(3, 1), filled(4, 1))
	d := loaded(t, image)
	for at := 0; at <= 4; at++ {
		for n := 0; n <= 4-at; n++ {
			if b, err := d.Read(at, n); err != api.OK || !bytes.Equal(b, image[at*api.Sector:(at+n)*api.Sector]) {
				t.Errorf("P3.2: Read(%d, %d): %d octets, %v", at, n, len(b), err)
			}
		}
	}
	for _, c := range [][2]int{
		{-1, 0}, {-1, 1}, {-1, 2}, {5, 0}, {5, -1}, {6, -2}, {0, -1}, {1, -1}, {4, 1}, {3, 2}, {0, 5}, {4, -1},
		{math.MaxInt, 0}, {math.MaxInt, 1}, {math.MaxInt, math.MaxInt}, {math.MinInt, 0}, {math.MinInt, math.MinInt},
		{0, math.MaxInt}, {1, math.MaxInt}, {4, math.MaxInt}, {0, math.MinInt}, {math.MinInt, math.MaxInt}, {-2, 4},
		{0, 1 << 57}, {1, 1<<57 + 1},
	} {
		if b, err := d.Read(c[0], c[1]); err != api.ErrArg || len(b) != 0 {
			t.Errorf("P3.2: Read(%d, %d): %d octets, %v", c[0], c[1], len(b), err)
		}
	}
}

func TestWriteRange(t *testing.T) {
	d := made(t, 4)
	for _, c := range []struct {
		at, octets int
	}{
		{0, 1}, {0, 127}, {0, 129}, {4, 1}, {-1, 0}, {-1, 128}, {-2, 512}, {5, 0}, {4, 128}, {3, 256}, {0, 640}, {1, 512},
		{math.MaxInt, 0}, {math.MaxInt, 128}, {math.MinInt, 0}, {math.MinInt, 128}, {math.MaxInt, 100}, {1 << 57, 128},
	} {
		wants(t, "P3.2: Write's arguments", d.Write(c.at, bytes.Repeat([]byte{9}, c.octets)), api.ErrArg)
	}
	if d.Waiting() != 0 || d.Writes() != 0 {
		t.Errorf("P3.2: behind ErrArg %d wait, %d written", d.Waiting(), d.Writes())
	}
	has(t, "P3.2: behind ErrArg", d, make([]byte, 4*api.Sector))
	for at := 0; at <= 4; at++ {
		wants(t, "P3.2: no sectors", d.Write(at, nil), api.OK)
		wants(t, "P3.2: no sectors", d.Write(at, []byte{}), api.OK)
	}
	if d.Waiting() != 0 || d.Writes() != 0 {
		t.Errorf("P3.2: no sectors: %d wait, %d written", d.Waiting(), d.Writes())
	}
	wants(t, "P3.2: all sectors", d.Write(0, filled(7, 4)), api.OK)
	wants(t, "P3.2: the last one", d.Write(3, filled(8, 1)), api.OK)
	if d.Waiting() != 5 || d.Writes() != 5 {
		t.Errorf("P3.2: %d wait, %d written", d.Waiting(), d.Writes())
	}
	has(t, "P3.2", d, join(filled(7, 3), filled(8, 1)))
}

func TestFlushInOrder(t *testing.T) {
	d := made(t, 3)
	wants(t, "P3.2: nothing waits", d.Flush(), api.OK)
	d.Write(0, join(filled(1, 1), filled(2, 1), filled(3, 1)))
	d.Write(1, filled(4, 1))
	d.Write(1, join(filled(5, 1), filled(6, 1)))
	want := join(filled(1, 1), filled(5, 1), filled(6, 1))
	has(t, "P3.2: the latest writes", d, want)
	if d.Waiting() != 6 || d.Writes() != 6 {
		t.Errorf("P3.2: %d wait, %d written", d.Waiting(), d.Writes())
	}
	wants(t, "P3.2", d.Flush(), api.OK)
	if d.Waiting() != 0 || d.Writes() != 6 {
		t.Errorf("P3.2: flushed: %d wait, %d written", d.Waiting(), d.Writes())
	}
	has(t, "P3.2: flushed", d, want)
	d.Crash(api.Crash{})
	has(t, "P3.2: flushed in order, safe", d, want)
	d.Write(2, filled(7, 1))
	if d.Waiting() != 1 || d.Writes() != 7 {
		t.Errorf("P3.2: %d wait, %d written", d.Waiting(), d.Writes())
	}
	d.Crash(api.Crash{})
	if d.Waiting() != 0 || d.Writes() != 7 {
		t.Errorf("P3.2: lost: %d wait, %d written", d.Waiting(), d.Writes())
	}
	has(t, "P3.3: lost", d, want)
}

func TestExample(t *testing.T) {
	d := made(t, 1)
	d.Write(0, filled('a', 1))
	d.Flush()
	d.Write(0, filled('b', 1))
	if kept := d.Crash(api.Crash{Torn: 0, Cut: 2}); kept != 0 {
		t.Errorf("P3.3: the example kept %d", kept)
	}
	has(t, "P3.3: the example", d, join([]byte("bb"), filled('a', 1)[2:]))
}

func TestCut(t *testing.T) {
	for _, cut := range []int{math.MinInt, -128, -1, 0, 1, 2, 64, 126, 127, 128, 129, 255, math.MaxInt} {
		d := loaded(t, filled('a', 2))
		d.Write(0, filled('b', 2))
		if kept := d.Crash(api.Crash{Torn: 1, Cut: cut}); kept != 0 {
			t.Errorf("P3.3: Cut %d kept %d", cut, kept)
		}
		want := filled('a', 2)
		if cut > 0 && cut < api.Sector {
			copy(want[api.Sector:], filled('b', 1)[:cut])
		}
		has(t, "P3.3: Cut", d, want)
	}
}

func TestTorn(t *testing.T) {
	for _, torn := range []int{math.MinInt, -1, 2, 3, math.MaxInt} {
		d := loaded(t, filled('a', 2))
		d.Write(0, filled('b', 2))
		if kept := d.Crash(api.Crash{Torn: torn, Cut: 9}); kept != 0 {
			t.Errorf("P3.3: Torn %d kept %d", torn, kept)
		}
		has(t, "P3.3: a number that no write has", d, filled('a', 2))
	}
	d := loaded(t, filled('a', 2))
	d.Write(0, filled('b', 2))
	if kept := d.Crash(api.Crash{Keep: []int{1}, Torn: 1, Cut: 3}); kept != 1 {
		t.Errorf("P3.3: kept and torn: %d", kept)
	}
	has(t, "P3.3: kept and torn", d, join(filled('a', 1), filled('b', 1)))
}

func TestKeep(t *testing.T) {
	for _, c := range []struct {
		keep  []int
		whole int
		want  []byte
	}{
		{nil, 0, []byte("aaa")},
		{[]int{}, 0, []byte("aaa")},
		{[]int{0}, 1, []byte("baa")},
		{[]int{1}, 1, []byte("aca")},
		{[]int{2}, 1, []byte("daa")},
		{[]int{3}, 1, []byte("aae")},
		{[]int{0, 2}, 2, []byte("daa")},
		{[]int{2, 0}, 2, []byte("daa")},
		{[]int{3, 1, 0}, 3, []byte("bce")},
		{[]int{0, 1, 2, 3}, 4, []byte("dce")},
		{[]int{0, 0, 0}, 1, []byte("baa")},
		{[]int{3, 1, 3, 1}, 2, []byte("ace")},
		{[]int{-1, 4, 5, math.MaxInt, math.MinInt}, 0, []byte("aaa")},
		{[]int{-1, 3, 4}, 1, []byte("aae")},
	} {
		d := loaded(t, filled('a', 3))
		d.Write(0, join(filled('b', 1), filled('c', 1)))
		d.Write(0, filled('d', 1))
		d.Write(2, filled('e', 1))
		keep := slices.Clone(c.keep)
		if kept := d.Crash(api.Crash{Keep: keep, Torn: -1, Cut: 5}); kept != c.whole {
			t.Errorf("P3.3: Keep %v: %d, not %d", c.keep, kept, c.whole)
		}
		if !slices.Equal(keep, c.keep) {
			t.Errorf("P3.4: Keep %v was changed", c.keep)
		}
		want := join(filled(c.want[0], 1), filled(c.want[1], 1), filled(c.want[2], 1))
		has(t, "P3.3: Keep", d, want)
		if d.Waiting() != 0 || d.Writes() != 4 {
			t.Errorf("P3.3: %d wait, %d written", d.Waiting(), d.Writes())
		}
	}
}

func TestTornAmongKept(t *testing.T) {
	// A torn write lies over those ahead of it that were kept, and under those behind it.
	for _, c := range []struct {
		torn int
		keep []int
		want []byte
	}{
		{1, []int{0}, join(filled('c', 1)[:10], filled('b', 1)[10:])},
		{0, []int{1}, filled('c', 1)},
		{1, []int{0, 2}, filled('d', 1)},
		{2, []int{0, 1}, join(filled('d', 1)[:10], filled('c', 1)[10:])},
		{2, nil, join(filled('d', 1)[:10], filled('a', 1)[10:])},
	} {
		d := loaded(t, filled('a', 1))
		for octet := byte('b'); octet <= 'd'; octet++ {
			d.Write(0, filled(octet, 1))
		}
		if kept := d.Crash(api.Crash{Keep: c.keep, Torn: c.torn, Cut: 10}); kept != len(c.keep) {
			t.Errorf("P3.3: Torn %d, Keep %v: %d", c.torn, c.keep, kept)
		}
		has(t, "P3.3: torn among kept ones", d, c.want)
	}
}

func TestLimitCounts(t *testing.T) {
	for limit := 0; limit <= 6; limit++ {
		d := made(t, 2)
		d.Limit(limit)
		done := 0
		for i := range 8 {
			var err api.Errno
			switch i % 4 {
			case 0:
				err = d.Write(0, filled(byte(i+1), 2))
			case 1:
				_, err = d.Read(0, 2)
			case 2:
				err = d.Flush()
			case 3:
				err = d.Write(2, nil)
			}
			want := api.OK
			if i >= limit {
				want = api.ErrOff
			}
			wants(t, "P3.3: Limit", err, want)
			if err == api.OK {
				done++
			}
		}
		if done != limit {
			t.Errorf("P3.3: Limit(%d): %d calls", limit, done)
		}
	}
}

func TestErrArgIsNoCall(t *testing.T) {
	d := made(t, 2)
	d.Limit(2)
	wrong := func() {
		t.Helper()
		if b, err := d.Read(0, 3); err != api.ErrArg || len(b) != 0 {
			t.Errorf("P3.2: Read: %v", err)
		}
		wants(t, "P3.2", d.Write(3, nil), api.ErrArg)
		wants(t, "P3.2", d.Write(0, filled(1, 1)[1:]), api.ErrArg)
	}
	wrong()
	wants(t, "P3.3", d.Write(0, filled(1, 1)), api.OK)
	wrong()
	// None of these is a call.
	d.Size()
	d.Image()
	d.Waiting()
	d.Writes()
	wants(t, "P3.3", d.Flush(), api.OK)
	wants(t, "P3.3", d.Flush(), api.ErrOff)
	wrong()
}

func TestPowerOff(t *testing.T) {
	d := loaded(t, filled('a', 2))
	d.Write(0, filled('b', 1))
	d.Limit(0)
	for range 3 {
		if b, err := d.Read(0, 1); err != api.ErrOff || len(b) != 0 {
			t.Errorf("P3.2: Read: %d octets, %v", len(b), err)
		}
		if b, err := d.Read(2, 0); err != api.ErrOff || len(b) != 0 {
			t.Errorf("P3.2: Read of none: %v", err)
		}
		wants(t, "P3.2", d.Write(1, filled('c', 1)), api.ErrOff)
		wants(t, "P3.2", d.Write(2, nil), api.ErrOff)
		wants(t, "P3.2", d.Flush(), api.ErrOff)
	}
	if d.Waiting() != 1 || d.Writes() != 1 {
		t.Errorf("P3.2: with the power off %d wait, %d written", d.Waiting(), d.Writes())
	}
	has(t, "P3.2: with the power off", d, join(filled('b', 1), filled('a', 1)))
	if kept := d.Crash(api.Crash{Keep: []int{0}}); kept != 1 {
		t.Errorf("P3.3: kept %d", kept)
	}
	has(t, "P3.3: what waited as the power went", d, join(filled('b', 1), filled('a', 1)))
	for range 5 {
		wants(t, "P3.3: on behind a crash", d.Flush(), api.OK)
	}
}

func TestLimitAnew(t *testing.T) {
	d := made(t, 1)
	d.Limit(5)
	wants(t, "P3.3", d.Flush(), api.OK)
	d.Limit(1)
	wants(t, "P3.3: the next limit", d.Flush(), api.OK)
	wants(t, "P3.3: the next limit", d.Flush(), api.ErrOff)
	d.Limit(2)
	wants(t, "P3.3: a limit with the power off", d.Flush(), api.OK)
	wants(t, "P3.3: a limit with the power off", d.Flush(), api.OK)
	wants(t, "P3.3: a limit with the power off", d.Flush(), api.ErrOff)
	for _, calls := range []int{-1, -2, math.MinInt} {
		d.Limit(0)
		wants(t, "P3.3: Limit(0)", d.Flush(), api.ErrOff)
		d.Limit(calls)
		for range 20 {
			wants(t, "P3.3: a limit below 0", d.Flush(), api.OK)
		}
	}
	d.Limit(3)
	d.Crash(api.Crash{})
	for range 20 {
		wants(t, "P3.3: no limit behind a crash", d.Flush(), api.OK)
	}
	d.Limit(math.MaxInt)
	for range 20 {
		wants(t, "P3.3: a great limit", d.Flush(), api.OK)
	}
}

func TestMemory(t *testing.T) {
	image := filled('a', 2)
	d := loaded(t, image[:api.Sector])
	if !bytes.Equal(image, filled('a', 2)) {
		t.Error("P3.4: Load changed its image")
	}
	image[0] = 'x'
	has(t, "P3.4: Load kept its image", d, filled('a', 1))

	room := filled('b', 2)
	d.Write(0, room[:api.Sector])
	if !bytes.Equal(room, filled('b', 2)) {
		t.Error("P3.4: Write changed its octets")
	}
	room[0] = 'x'
	has(t, "P3.4: Write kept its octets", d, filled('b', 1))

	for _, flushed := range []bool{false, true} {
		if flushed {
			d.Flush()
		}
		first, second := d.Image(), d.Image()
		read, _ := d.Read(0, 1)
		again, _ := d.Read(0, 1)
		clear(first[:cap(first)])
		clear(read[:cap(read)])
		if !bytes.Equal(second, filled('b', 1)) || !bytes.Equal(again, filled('b', 1)) {
			t.Error("P3.4: answers share memory")
		}
		has(t, "P3.4: an answer is the disk's memory", d, filled('b', 1))
	}

	keep := []int{0, 1, 2, 3}
	d.Write(0, filled('c', 1))
	d.Crash(api.Crash{Keep: keep[:1]})
	if !slices.Equal(keep, []int{0, 1, 2, 3}) {
		t.Error("P3.4: Crash changed what is to be kept")
	}
}

func TestTwoDisks(t *testing.T) {
	a, b := made(t, 2), made(t, 2)
	a.Write(0, filled(1, 1))
	a.Limit(0)
	wants(t, "P3.4: another disk's limit", b.Write(1, filled(2, 1)), api.OK)
	b.Flush()
	has(t, "P3.4: one disk", a, join(filled(1, 1), filled(0, 1)))
	has(t, "P3.4: another disk", b, join(filled(0, 1), filled(2, 1)))
}

func TestFlushedIsThere(t *testing.T) {
	d := made(t, 4)
	d.Write(0, join(filled(1, 1), filled(2, 1)))
	d.Flush()
	want := join(filled(1, 1), filled(2, 1), filled(0, 2))
	for i := range 10 {
		d.Write(2, join(filled(byte(10+i), 1), filled(byte(30+i), 1)))
		if i%3 == 0 {
			d.Limit(i % 2)
			d.Flush()
			d.Write(0, filled(99, 1))
			d.Limit(0)
		}
		d.Crash(api.Crash{Torn: i % 2, Cut: 1 + i})
		if b, err := d.Read(0, 2); err != api.OK || !bytes.Equal(b, want[:2*api.Sector]) {
			t.Errorf("P3.4: crash %d: what was flushed isn't there", i)
		}
	}
}

// model is a disk by the chapter's words: every write that waits, gone through anew each time.
type model struct {
	safe    []byte
	ats     []int
	datas   [][]byte
	written int
	on      bool
	left    int
}

// call tells whether a call is done, and counts it.
func (m *model) call() bool {
	if m.on {
		return true
	}
	m.left--
	return m.left >= 0
}

// image is what the sectors have by the latest writes.
func (m *model) image() []byte {
	b := slices.Clone(m.safe)
	for i, at := range m.ats {
		copy(b[at*api.Sector:], m.datas[i])
	}
	return b
}

// write makes sectors wait.
func (m *model) write(at int, b []byte) api.Errno {
	if !m.call() {
		return api.ErrOff
	}
	for i := 0; i < len(b); i += api.Sector {
		m.ats = append(m.ats, at+i/api.Sector)
		m.datas = append(m.datas, slices.Clone(b[i:i+api.Sector]))
		m.written++
	}
	return api.OK
}

// flush makes all safe.
func (m *model) flush() api.Errno {
	if !m.call() {
		return api.ErrOff
	}
	m.safe = m.image()
	m.ats, m.datas = nil, nil
	return api.OK
}

// crash keeps some, and tears one.
func (m *model) crash(x api.Crash) int {
	whole := 0
	for i, at := range m.ats {
		if slices.Contains(x.Keep, i) {
			copy(m.safe[at*api.Sector:], m.datas[i])
			whole++
		} else if i == x.Torn && 1 <= x.Cut && x.Cut <= 127 {
			copy(m.safe[at*api.Sector:], m.datas[i][:x.Cut])
		}
	}
	m.ats, m.datas, m.on = nil, nil, true
	return whole
}

// dice are numbers that look as if by chance, the same ones every time.
type dice uint64

// below is a number from 0 to n - 1.
func (u *dice) below(n int) int {
	*u = *u*6364136223846793005 + 1442695040888963407
	return int(uint64(*u)>>33) % n
}

// numbers are some that writes may have, and some that none has.
func (u *dice) numbers(waiting int) []int {
	var list []int
	for range u.below(8) {
		list = append(list, u.below(waiting+3)-1)
	}
	return list
}

func TestAgainstTheWords(t *testing.T) {
	const size = 6
	for seed := range 300 {
		u := dice(seed)
		d := made(t, size)
		m := &model{safe: make([]byte, size*api.Sector), on: true}
		for step := range 60 {
			oneStep(t, &u, d, m)
			if d.Waiting() != len(m.ats) || d.Writes() != m.written || !bytes.Equal(d.Image(), m.image()) {
				t.Fatalf("P3.2: seed %d, step %d: the disk isn't as the words say", seed, step)
			}
		}
	}
}

// oneStep does one thing to both, and holds the answers against each other.
func oneStep(t *testing.T, u *dice, d *disk.Disk, m *model) {
	t.Helper()
	at := u.below(d.Size() + 1)
	n := u.below(d.Size() - at + 1)
	switch u.below(8) {
	case 0, 1, 2:
		b := make([]byte, n*api.Sector)
		for i := range b {
			b[i] = byte(u.below(256))
		}
		wants(t, "P3.2: Write", d.Write(at, b), m.write(at, b))
	case 3:
		wants(t, "P3.2: Flush", d.Flush(), m.flush())
	case 4, 5:
		want, wantErr := []byte(nil), api.ErrOff
		if m.call() {
			want, wantErr = m.image()[at*api.Sector:(at+n)*api.Sector], api.OK
		}
		if b, err := d.Read(at, n); err != wantErr || !bytes.Equal(b, want) {
			t.Errorf("P3.2: Read(%d, %d): %v, not %v", at, n, err, wantErr)
		}
	case 6:
		m.left = u.below(8) - 1
		m.on = m.left < 0
		d.Limit(m.left)
	case 7:
		x := api.Crash{Keep: u.numbers(d.Waiting()), Torn: u.below(d.Waiting()+3) - 1, Cut: u.below(131) - 1}
		if got, want := d.Crash(x), m.crash(x); got != want {
			t.Errorf("P3.3: Crash kept %d, not %d", got, want)
		}
	}
}
