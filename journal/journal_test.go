package journal_test

import (
	"bytes"
	"encoding/binary"
	"hash/crc32"
	"math"
	"testing"

	"mothball/api"
	"mothball/disk"
	"mothball/journal"
)

// lastEpoch is the greatest epoch.
const lastEpoch = 1 << 31

// dice are numbers that look as if by chance, the same ones every time.
type dice uint64

// below is a number from 0 to n - 1.
func (u *dice) below(n int) int {
	*u = *u*6364136223846793005 + 1442695040888963407
	return int(uint64(*u)>>33) % n
}

// some are n octets, another row of them by each number.
func some(n, row int) []byte {
	b := make([]byte, n)
	u := dice(row)
	for i := range b {
		b[i] = byte(u.below(256))
	}
	return b
}

// laid is a part's sector, by layer 6's words.
func laid(mark byte, epoch, number, index int, data []byte) []byte {
	b := []byte{mark}
	b = binary.LittleEndian.AppendUint32(b, uint32(epoch))
	b = binary.LittleEndian.AppendUint32(b, uint32(number))
	b = binary.LittleEndian.AppendUint16(b, uint16(index))
	b = append(b, byte(len(data)))
	b = append(b, data...)
	b = append(b, make([]byte, 124-len(b))...)
	return binary.LittleEndian.AppendUint32(b, crc32.ChecksumIEEE(b))
}

// cut are a transaction's sectors, by layer 6's words.
func cut(epoch, number int, payload []byte) [][]byte {
	var all [][]byte
	for rest := payload; len(rest) > 0; {
		k := min(len(rest), 112)
		all = append(all, laid('P', epoch, number, len(all), rest[:k]))
		rest = rest[k:]
	}
	sum := binary.LittleEndian.AppendUint32(nil, crc32.ChecksumIEEE(payload))
	return append(all, laid('F', epoch, number, len(all), sum))
}

// sectors is how many sectors a payload's transaction has; 0, if it isn't as long as may be.
func sectors(payload int) int {
	if payload < 1 || payload > 65000 {
		return 0
	}
	return (payload+111)/112 + 1
}

// longest is how many octets a payload has at most whose transaction has so many sectors.
func longest(sectors int) int { return min(112*(sectors-1), 65000) }

// model is what the chapter's words say of a journal.
type model struct {
	n, epoch, start, used int
	list                  [][]byte
	dirty, dead           bool
}

// place is where the next transaction comes.
func (m *model) place() int { return (m.start + m.used) % m.n }

// append is what Append answers where no disk fails.
func (m *model) append(payload []byte) api.Errno {
	k := sectors(len(payload))
	switch {
	case m.dead:
		return api.ErrOff
	case m.dirty:
		return api.ErrBusy
	case k == 0:
		return api.ErrArg
	case k > m.n-m.used:
		return api.ErrLog
	}
	m.used += k
	m.list = append(m.list, bytes.Clone(payload))
	return api.OK
}

// reset is what Reset answers.
func (m *model) reset() api.Errno {
	if m.dead {
		return api.ErrOff
	}
	if m.epoch == lastEpoch {
		return api.ErrArg
	}
	m.epoch, m.start, m.used, m.list, m.dirty = m.epoch+1, m.place(), 0, nil, false
	return api.OK
}

// stands is the journal that the chapter's words say of a ring's octets.
func stands(b []byte, epoch, start int) *model {
	n := len(b) / 128
	m := &model{n: n, epoch: epoch, start: start}
	at := func(i int) []byte {
		place := (start + i) % n
		return b[place*128 : place*128+128]
	}
	for {
		var payload []byte
		i := m.used
		for i < n && at(i)[0] == 'P' && at(i)[11] <= 112 {
			payload = append(payload, at(i)[12:12+int(at(i)[11])]...)
			i++
		}
		k := sectors(len(payload))
		whole := k > 0 && m.used+k <= n
		if whole {
			for i, x := range cut(epoch, len(m.list), payload) {
				whole = whole && bytes.Equal(x, at(m.used+i))
			}
		}
		if !whole {
			break
		}
		m.list = append(m.list, payload)
		m.used += k
	}
	for i := m.used; i < n; i++ {
		if binary.LittleEndian.Uint32(at(i)[1:5]) == uint32(epoch) {
			m.dirty = true
		}
	}
	return m
}

// same fails if a journal isn't as a model.
func same(t *testing.T, promise string, j *journal.Journal, m *model) {
	t.Helper()
	if j.Used() != m.used || j.Free() != m.n-m.used || j.Epoch() != m.epoch || j.Place() != m.place() || j.Dirty() != m.dirty {
		t.Fatalf("%s: %d used, %d free, epoch %d, place %d, dirty %v; not %d, %d, %d, %d, %v", promise,
			j.Used(), j.Free(), j.Epoch(), j.Place(), j.Dirty(), m.used, m.n-m.used, m.epoch, m.place(), m.dirty)
	}
	edge := longest(m.n - m.used)
	for _, payload := range []int{math.MinInt, -112, -1, 0, 1, 112, 113, edge - 1, edge, edge + 1, 65000, 65001, 1 << 32, math.MaxInt} {
		k := sectors(payload)
		if want := k > 0 && k <= m.n-m.used; j.Fits(payload) != want {
			t.Fatalf("%s: P7.2: Fits(%d) of %d free ones isn't %v", promise, payload, m.n-m.used, want)
		}
	}
}

// lists fails if payloads aren't those of a list.
func lists(t *testing.T, promise string, got, want [][]byte) {
	t.Helper()
	if !alike(got, want) {
		t.Fatalf("%s: %d payloads, which aren't the %d", promise, len(got), len(want))
	}
}

// alike: are two lists of payloads the same?
func alike(a, b [][]byte) bool {
	if len(a) != len(b) {
		return false
	}
	for i := range a {
		if !bytes.Equal(a[i], b[i]) {
			return false
		}
	}
	return true
}

// wants fails if a call's answer isn't the one that is asked for.
func wants(t *testing.T, promise string, got, want api.Errno) {
	t.Helper()
	if got != want {
		t.Fatalf("%s: answered %d, not %d", promise, int(got), int(want))
	}
}

// spun is a disk of n sectors, each octet of which is another than nought.
func spun(t *testing.T, n int) *disk.Disk {
	t.Helper()
	b := some(n*128, n)
	for i := range b {
		b[i] |= 0x80
	}
	d, err := disk.Load(b)
	if err != api.OK {
		t.Fatal(err)
	}
	return d
}

// made is a new journal.
func made(t *testing.T, d *disk.Disk, from, n, epoch, start int) *journal.Journal {
	t.Helper()
	j, err := journal.New(d, from, n, epoch, start)
	if j == nil || err != api.OK {
		t.Fatalf("P7.1: New(%d, %d, %d, %d): %v", from, n, epoch, start, err)
	}
	return j
}

// opened is the journal that stands on a disk: it is held against the model, and what stands there against the disk's image.
func opened(t *testing.T, d *disk.Disk, from, n, epoch, start int) (*journal.Journal, *model) {
	t.Helper()
	j, list, err := journal.Open(d, from, n, epoch, start)
	if j == nil || err != api.OK {
		t.Fatalf("P7.1: Open(%d, %d, %d, %d): %v", from, n, epoch, start, err)
	}
	m := stands(d.Image()[from*128:(from+n)*128], epoch, start)
	same(t, "P7.1: Open", j, m)
	lists(t, "P7.1: Open", list, m.list)
	return j, m
}

// call is one of New and Open: what is there beside the error?
type call func(d *disk.Disk, from, n, epoch, start int) (bool, api.Errno)

// calls are New and Open.
func calls() map[string]call {
	return map[string]call{
		"New": func(d *disk.Disk, from, n, epoch, start int) (bool, api.Errno) {
			j, err := journal.New(d, from, n, epoch, start)
			return j != nil, err
		},
		"Open": func(d *disk.Disk, from, n, epoch, start int) (bool, api.Errno) {
			j, list, err := journal.Open(d, from, n, epoch, start)
			return j != nil || len(list) > 0, err
		},
	}
}

func TestArguments(t *testing.T) {
	small, great := spun(t, 12), spun(t, 5000)
	for name, f := range calls() {
		for _, c := range []struct {
			d                     *disk.Disk
			from, n, epoch, start int
			want                  api.Errno
		}{
			{nil, 0, 8, 1, 0, api.ErrNil},
			{nil, -1, 3, 0, -1, api.ErrNil},
			{nil, math.MaxInt, math.MaxInt, math.MinInt, math.MaxInt, api.ErrNil},
			{small, 0, 4, 1, 0, api.OK},
			{small, 0, 3, 1, 0, api.ErrArg},
			{small, 0, 1, 1, 0, api.ErrArg},
			{small, 0, 0, 1, 0, api.ErrArg},
			{small, 0, -1, 1, 0, api.ErrArg},
			{small, 0, -4, 1, 0, api.ErrArg},
			{small, 12, 0, 1, 0, api.ErrArg},
			{small, 0, 12, 1, 11, api.OK},
			{small, 0, 13, 1, 0, api.ErrArg},
			{small, 1, 12, 1, 0, api.ErrArg},
			{small, 1, 11, 1, 10, api.OK},
			{small, 8, 4, 1, 3, api.OK},
			{small, 9, 4, 1, 0, api.ErrArg},
			{small, 12, 4, 1, 0, api.ErrArg},
			{small, 13, 4, 1, 0, api.ErrArg},
			{small, -1, 4, 1, 0, api.ErrArg},
			{small, -4, 8, 1, 0, api.ErrArg},
			{small, math.MaxInt, 8, 1, 0, api.ErrArg},
			{small, math.MaxInt - 7, 8, 1, 0, api.ErrArg},
			{small, math.MaxInt - 8, 9, 1, 0, api.ErrArg},
			{small, math.MinInt, 8, 1, 0, api.ErrArg},
			{small, math.MinInt + 4, 8, 1, 0, api.ErrArg},
			{small, 0, math.MaxInt, 1, 0, api.ErrArg},
			{small, 1, math.MaxInt, 1, 0, api.ErrArg},
			{small, 0, math.MinInt, 1, 0, api.ErrArg},
			{small, 12, math.MinInt, 1, -1, api.ErrArg},
			{small, 0, 1<<32 + 8, 1, 0, api.ErrArg},
			{small, 1 << 32, 8, 1, 0, api.ErrArg},
			{great, 0, 4096, 1, 4095, api.OK},
			{great, 904, 4096, 1, 0, api.OK},
			{great, 905, 4096, 1, 0, api.ErrArg},
			{great, 0, 4097, 1, 0, api.ErrArg},
			{great, 0, 5000, 1, 0, api.ErrArg},
			{small, 2, 8, 1, 0, api.OK},
			{small, 2, 8, 2, 0, api.OK},
			{small, 2, 8, lastEpoch - 1, 0, api.OK},
			{small, 2, 8, lastEpoch, 0, api.OK},
			{small, 2, 8, 0, 0, api.ErrArg},
			{small, 2, 8, -1, 0, api.ErrArg},
			{small, 2, 8, lastEpoch + 1, 0, api.ErrArg},
			{small, 2, 8, 1<<32 + 1, 0, api.ErrArg},
			{small, 2, 8, -lastEpoch, 0, api.ErrArg},
			{small, 2, 8, math.MaxInt, 0, api.ErrArg},
			{small, 2, 8, math.MinInt, 0, api.ErrArg},
			{small, 2, 8, 1, 1, api.OK},
			{small, 2, 8, 1, 7, api.OK},
			{small, 2, 8, 1, 8, api.ErrArg},
			{small, 2, 8, 1, 9, api.ErrArg},
			{small, 2, 8, 1, -1, api.ErrArg},
			{small, 2, 8, 1, 1 << 32, api.ErrArg},
			{small, 2, 8, 1, math.MaxInt, api.ErrArg},
			{small, 2, 8, 1, math.MinInt, api.ErrArg},
		} {
			there, err := f(c.d, c.from, c.n, c.epoch, c.start)
			if err != c.want || there != (c.want == api.OK) {
				t.Errorf("P7.1: %s(%d, %d, %d, %d): %d, not %d", name, c.from, c.n, c.epoch, c.start, int(err), int(c.want))
			}
		}
	}
}

func TestNewIsEmpty(t *testing.T) {
	for _, c := range [][4]int{{0, 4, 1, 0}, {3, 4, 1, 3}, {0, 4096, lastEpoch, 4095}, {4, 4096, 7, 0}, {0, 4100 - 4, 257, 2000}, {1, 9, lastEpoch - 1, 5}} {
		d := spun(t, 4100)
		was := d.Image()
		d.Limit(1)
		j := made(t, d, c[0], c[1], c[2], c[3])
		same(t, "P7.1: New", j, &model{n: c[1], epoch: c[2], start: c[3]})
		if d.Writes() != 0 || d.Waiting() != 0 || !bytes.Equal(d.Image(), was) {
			t.Error("P7.1: New wrote")
		}
		if _, err := d.Read(0, 1); err != api.OK {
			t.Error("P7.1: New called the disk")
		}
		if j, err := journal.New(d, c[0], c[1], c[2], c[3]); j == nil || err != api.OK {
			t.Errorf("P7.1: New with the power off: %v", err)
		}
	}
}

func TestNewIsNeverDirty(t *testing.T) {
	d := spun(t, 8)
	j := made(t, d, 0, 8, 5, 0)
	wants(t, "P7.2", j.Append(some(400, 1)), api.OK)
	// What stands there isn't read: the epoch and the count are those of the transaction that is there.
	j = made(t, d, 0, 8, 5, 3)
	same(t, "P7.1: New over leftovers", j, &model{n: 8, epoch: 5, start: 3})
	j = made(t, d, 0, 8, 5, 0)
	same(t, "P7.1: New over a transaction", j, &model{n: 8, epoch: 5, start: 0})
	wants(t, "P7.2: Append to a new one", j.Append(some(10, 2)), api.OK)
}

func TestOpenReadsOnce(t *testing.T) {
	d := spun(t, 12)
	j := made(t, d, 2, 8, 3, 6)
	wants(t, "P7.2", j.Append(some(300, 1)), api.OK)
	was, writes := d.Image(), d.Writes()
	d.Limit(1)
	_, m := opened(t, d, 2, 8, 3, 6)
	lists(t, "P7.1", m.list, [][]byte{some(300, 1)})
	if _, err := d.Read(0, 1); err != api.ErrOff {
		t.Error("P7.1: Open made no call of the disk")
	}
	if d.Writes() != writes || d.Waiting() != 0 || !bytes.Equal(d.Image(), was) {
		t.Error("P7.1: Open wrote")
	}
	if j, list, err := journal.Open(d, 2, 8, 3, 6); j != nil || len(list) != 0 || err != api.ErrOff {
		t.Errorf("P7.1: Open with the power off: %d payloads, %v", len(list), err)
	}
	if j, list, err := journal.Open(d, 2, 11, 3, 6); j != nil || len(list) != 0 || err != api.ErrArg {
		t.Errorf("P7.1: ErrArg comes ahead of ErrOff: %v", err)
	}
	if j, list, err := journal.Open(nil, 2, 8, 3, 6); j != nil || len(list) != 0 || err != api.ErrNil {
		t.Errorf("P7.1: ErrNil: %v", err)
	}
	// An Open that failed was none: the next one has it all.
	d.Limit(-1)
	_, m = opened(t, d, 2, 8, 3, 6)
	lists(t, "P7.1", m.list, [][]byte{some(300, 1)})
}

func TestExample(t *testing.T) {
	d, _ := disk.New(8)
	j := made(t, d, 0, 8, 1, 0)
	wants(t, "P7.2: the example: 112 octets", j.Append(some(112, 1)), api.OK)
	same(t, "P7.2: the example", j, &model{n: 8, epoch: 1, used: 2})
	wants(t, "P7.2: the example: 700 octets", j.Append(some(700, 2)), api.ErrLog)
	same(t, "P7.2: the example", j, &model{n: 8, epoch: 1, used: 2})
	_, m := opened(t, d, 0, 8, 1, 0)
	lists(t, "P7.2: the example", m.list, [][]byte{some(112, 1)})
}

func TestEmptyDisk(t *testing.T) {
	d, _ := disk.New(20)
	for _, c := range [][4]int{{0, 20, 1, 0}, {3, 4, lastEpoch, 3}, {16, 4, 9, 1}} {
		j, m := opened(t, d, c[0], c[1], c[2], c[3])
		if m.used != 0 || m.dirty || len(m.list) != 0 || j.Place() != c[3] {
			t.Error("P7.1: something stands on an empty disk")
		}
	}
}

// TestOctets holds what is on the disk behind appends against layer 6's words, and what is outside of the ring against what was there.
func TestOctets(t *testing.T) {
	for _, epoch := range []int{1, 256, 0x01020304, lastEpoch - 1, lastEpoch} {
		for start := range 9 {
			d := spun(t, 14)
			want := d.Image()
			j := made(t, d, 3, 9, epoch, start)
			place := start
			for number, size := range []int{1, 113, 224} {
				payload := some(size, number)
				wants(t, "P7.2: Append", j.Append(payload), api.OK)
				for _, x := range cut(epoch, number, payload) {
					copy(want[(3+place)*128:], x)
					place = (place + 1) % 9
				}
				if !bytes.Equal(d.Image(), want) {
					t.Fatalf("P7.2: from %d on, behind %d transactions: other octets", start, number+1)
				}
				if d.Waiting() != 0 {
					t.Fatal("P7.2: an Append that answered OK left writes that wait")
				}
				d.Crash(api.Crash{Torn: -1})
				if !bytes.Equal(d.Image(), want) {
					t.Fatal("P7.4: a crash lost what was appended")
				}
			}
		}
	}
}

// TestAround goes around the ring again and again, with a Reset where there is no more room, and is opened behind each step.
func TestAround(t *testing.T) {
	for n := 4; n <= 13; n++ {
		u := dice(n)
		d := spun(t, n+3)
		start := u.below(n)
		j := made(t, d, 2, n, 1, start)
		m := &model{n: n, epoch: 1, start: start}
		full := 0
		for step := range 150 {
			payload := some(1+u.below(112*n), step)
			err := j.Append(payload)
			wants(t, "P7.2: Append", err, m.append(payload))
			if err == api.ErrLog && sectors(len(payload)) <= n {
				wants(t, "P7.3: Reset", j.Reset(), m.reset())
				same(t, "P7.3: Reset", j, m)
				wants(t, "P7.2: Append behind Reset", j.Append(payload), m.append(payload))
			}
			if m.used == n {
				full++
			}
			same(t, "P7.2", j, m)
			k, list, err := journal.Open(d, 2, n, m.epoch, m.start)
			if err != api.OK {
				t.Fatal(err)
			}
			same(t, "P7.1: Open", k, m)
			lists(t, "P7.1: Open", list, m.list)
			if u.below(3) == 0 {
				j = k
			}
		}
		if full == 0 || m.epoch < 10 {
			t.Errorf("P7.2: of %d sectors: %d times full, epoch %d", n, full, m.epoch)
		}
	}
}

func TestRoom(t *testing.T) {
	for _, n := range []int{4, 5, 8, 100} {
		for ahead := 0; ahead+2 <= n; ahead++ {
			if ahead == 1 || n > 50 && ahead%9 != 0 {
				continue
			}
			d := spun(t, n)
			start := (ahead * 5) % n
			j := made(t, d, 0, n, 2, start)
			m := &model{n: n, epoch: 2, start: start}
			if ahead > 0 {
				first := some(longest(ahead), 1)
				wants(t, "P7.2", j.Append(first), m.append(first))
			}
			was, writes := d.Image(), d.Writes()
			more := some(longest(n-ahead)+1, 2)
			wants(t, "P7.2: one sector more than are free", j.Append(more), api.ErrLog)
			wants(t, "P7.2: many more than are free", j.Append(some(65000, 3)), api.ErrLog)
			wants(t, "P7.2: no octets", j.Append(nil), api.ErrArg)
			wants(t, "P7.2: no octets", j.Append([]byte{}), api.ErrArg)
			wants(t, "P7.2: ErrArg ahead of ErrLog", j.Append(make([]byte, 65001)), api.ErrArg)
			wants(t, "P7.2: ErrArg ahead of ErrLog", j.Append(make([]byte, 130000)), api.ErrArg)
			if d.Writes() != writes || !bytes.Equal(d.Image(), was) {
				t.Fatal("P7.2: an Append with an error wrote")
			}
			same(t, "P7.2: behind errors", j, m)
			rest := more[:len(more)-1]
			wants(t, "P7.2: as many sectors as are free", j.Append(rest), m.append(rest))
			same(t, "P7.2: a full one", j, m)
			if j.Free() != 0 || j.Used() != n || j.Place() != start {
				t.Fatalf("P7.2: a full one: %d free, place %d", j.Free(), j.Place())
			}
			wants(t, "P7.2: a full one", j.Append([]byte{1}), api.ErrLog)
			wants(t, "P7.2: a full one", j.Append(nil), api.ErrArg)
			k, o := opened(t, d, 0, n, 2, start)
			lists(t, "P7.1: a full one", o.list, m.list)
			same(t, "P7.1: a full one isn't dirty", k, m)
		}
	}
}

func TestLongest(t *testing.T) {
	d := spun(t, 4098)
	j := made(t, d, 2, 4096, 1, 4000)
	m := &model{n: 4096, epoch: 1, start: 4000}
	for i, size := range []int{65001, 65000, 1, 65000, 64960, 65000, 0, 65000, 65000, 64961, 65000, 100, 65000} {
		payload := some(size, i)
		wants(t, "P7.2: long payloads", j.Append(payload), m.append(payload))
		same(t, "P7.2: long payloads", j, m)
	}
	_, o := opened(t, d, 2, 4096, 1, 4000)
	lists(t, "P7.1: long payloads", o.list, m.list)
	if len(m.list) != 9 {
		t.Errorf("P7.2: %d payloads", len(m.list))
	}
	// As many transactions as a journal may have.
	wants(t, "P7.3", j.Reset(), m.reset())
	for range 2048 {
		wants(t, "P7.2: short payloads", j.Append([]byte{7}), m.append([]byte{7}))
	}
	wants(t, "P7.2: short payloads", j.Append([]byte{7}), api.ErrLog)
	_, o = opened(t, d, 2, 4096, 2, m.start)
	lists(t, "P7.1: short payloads", o.list, m.list)
}

func TestFits(t *testing.T) {
	d := spun(t, 700)
	j := made(t, d, 0, 582, 1, 0)
	if !j.Fits(65000) || j.Fits(65001) || !j.Fits(1) || j.Fits(0) || j.Fits(-1) || j.Fits(math.MinInt) || j.Fits(math.MaxInt) {
		t.Error("P7.2: Fits of 582 sectors")
	}
	j = made(t, d, 0, 581, 1, 0)
	if j.Fits(65000) || !j.Fits(64960) || j.Fits(64961) {
		t.Error("P7.2: Fits of 581 sectors")
	}
	j = made(t, d, 0, 700, 1, 0)
	if !j.Fits(65000) || j.Fits(65001) || j.Fits(65500) {
		t.Error("P7.2: Fits of more sectors than the longest payload has")
	}
	// Whether the power is off or not.
	d.Limit(0)
	same(t, "P7.2: with the power off", j, &model{n: 700, epoch: 1})
}

func TestReset(t *testing.T) {
	d := spun(t, 10)
	j := made(t, d, 1, 8, 41, 7)
	m := &model{n: 8, epoch: 41, start: 7}
	wants(t, "P7.2", j.Append(some(300, 1)), m.append(some(300, 1)))
	was, writes := d.Image(), d.Writes()
	d.Limit(1)
	for range 3 {
		wants(t, "P7.3: Reset", j.Reset(), m.reset())
		same(t, "P7.3: Reset", j, m)
	}
	if d.Writes() != writes || !bytes.Equal(d.Image(), was) {
		t.Error("P7.3: Reset wrote")
	}
	if _, err := d.Read(0, 1); err != api.OK {
		t.Error("P7.3: Reset called the disk")
	}
	wants(t, "P7.3: Reset with the power off", j.Reset(), m.reset())
	same(t, "P7.3: Reset with the power off", j, m)
	d.Limit(-1)
	// Counted anew: the number in the sectors is 0 again.
	wants(t, "P7.2", j.Append(some(500, 2)), m.append(some(500, 2)))
	lists(t, "P7.3: what was ahead of Reset doesn't count", stands(d.Image()[128:9*128], 45, 3).list, [][]byte{some(500, 2)})
	_, o := opened(t, d, 1, 8, 45, 3)
	lists(t, "P7.3: Open behind Reset", o.list, [][]byte{some(500, 2)})
	for _, epoch := range []int{40, 41, 42, 43, 44, 46} {
		for start := range 8 {
			if _, o := opened(t, d, 1, 8, epoch, start); len(o.list) != 0 {
				t.Errorf("P7.3: epoch %d stands at %d", epoch, start)
			}
		}
	}
}

func TestLastEpoch(t *testing.T) {
	d := spun(t, 8)
	j := made(t, d, 0, 8, lastEpoch-2, 3)
	m := &model{n: 8, epoch: lastEpoch - 2, start: 3}
	for range 4 {
		wants(t, "P7.3: up to the last epoch", j.Reset(), m.reset())
		same(t, "P7.3: up to the last epoch", j, m)
		wants(t, "P7.2: in one of the last epochs", j.Append(some(50, m.used)), m.append(some(50, m.used)))
		same(t, "P7.2: in one of the last epochs", j, m)
	}
	if m.epoch != lastEpoch || m.used != 6 {
		t.Fatalf("P7.3: epoch %d, %d used", m.epoch, m.used)
	}
	_, o := opened(t, d, 0, 8, lastEpoch, m.start)
	lists(t, "P7.1: of the last epoch", o.list, m.list)
	// A dirty one of the last epoch stays so.
	d.Limit(2)
	wants(t, "P7.2", j.Append(some(9, 1)), api.ErrOff)
	d.Crash(api.Crash{})
	k, o := opened(t, d, 0, 8, lastEpoch, m.start)
	lists(t, "P7.4: of the last epoch", o.list, m.list)
	if !k.Dirty() {
		t.Error("P7.2: of the last epoch: it isn't dirty")
	}
	wants(t, "P7.3: Reset at the last epoch", k.Reset(), api.ErrArg)
	same(t, "P7.3: Reset at the last epoch", k, o)
	wants(t, "P7.2: it is dirty still", k.Append([]byte{1}), api.ErrBusy)
	wants(t, "P7.3: a dead one's ErrOff first", j.Reset(), api.ErrOff)
}

func TestMemory(t *testing.T) {
	d := spun(t, 16)
	j := made(t, d, 0, 16, 1, 0)
	spare := some(600, 1)
	was := bytes.Clone(spare)
	wants(t, "P7.2", j.Append(spare[:200]), api.OK)
	wants(t, "P7.2", j.Append(spare[200:330:400]), api.OK)
	wants(t, "P7.2", j.Append(spare[:0]), api.ErrArg)
	if !bytes.Equal(spare, was) {
		t.Error("P7.4: what was handed in was changed")
	}
	clear(spare)
	_, a, _ := journal.Open(d, 0, 16, 1, 0)
	_, b, _ := journal.Open(d, 0, 16, 1, 0)
	want := [][]byte{was[:200], was[200:330]}
	lists(t, "P7.4: what was handed in, changed behind it", a, want)
	image := d.Image()
	for _, x := range a {
		// The spare room too: no two payloads share any.
		x = x[:cap(x)]
		for i := range x {
			x[i] = 0xee
		}
	}
	lists(t, "P7.4: one answer, changed, is in another", b, want)
	if !bytes.Equal(d.Image(), image) {
		t.Error("P7.4: an answer, changed, is in the disk")
	}
	_, a, _ = journal.Open(d, 0, 16, 1, 0)
	clear(a[0][:cap(a[0])])
	if !bytes.Equal(a[1], want[1]) {
		t.Error("P7.4: two payloads of one answer share memory")
	}
	_, a, _ = journal.Open(d, 0, 16, 1, 0)
	clear(a[1][:cap(a[1])])
	if !bytes.Equal(a[0], want[0]) {
		t.Error("P7.4: two payloads of one answer share memory")
	}
}

func TestTwoOfOneDisk(t *testing.T) {
	d := spun(t, 20)
	was := d.Image()
	js := [2]*journal.Journal{made(t, d, 1, 8, 1, 5), made(t, d, 9, 8, 1, 2)}
	ms := [2]*model{{n: 8, epoch: 1, start: 5}, {n: 8, epoch: 1, start: 2}}
	u := dice(9)
	for step := range 200 {
		i := u.below(2)
		payload := some(u.below(400), step)
		err := js[i].Append(payload)
		wants(t, "P7.2: two of one disk", err, ms[i].append(payload))
		if err == api.ErrLog {
			wants(t, "P7.3: two of one disk", js[i].Reset(), ms[i].reset())
		}
		for i := range 2 {
			same(t, "P7.2: two of one disk", js[i], ms[i])
			_, o := opened(t, d, 1+8*i, 8, ms[i].epoch, ms[i].start)
			lists(t, "P7.1: two of one disk", o.list, ms[i].list)
		}
	}
	now := d.Image()
	if !bytes.Equal(now[:128], was[:128]) || !bytes.Equal(now[17*128:], was[17*128:]) {
		t.Error("P7.2: a sector outside of the rings was written")
	}
}
