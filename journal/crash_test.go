package journal_test

import (
	"bytes"
	"testing"

	"mothball/api"
	"mothball/disk"
	"mothball/journal"
)

// step is one call of the disk on the way of an Append: a write, or a Flush, if it has no octets.
type step struct {
	at int
	b  []byte
}

// steps are the calls of the disk that the chapter's words say of an Append.
func steps(from, n, place int, all [][]byte) []step {
	var out []step
	parts := all[:len(all)-1]
	first := min(len(parts), n-place)
	out = append(out, step{from + place, bytes.Join(parts[:first], nil)})
	if first < len(parts) {
		out = append(out, step{from, bytes.Join(parts[first:], nil)})
	}
	foot := step{from + (place+len(parts))%n, all[len(parts)]}
	return append(out, step{}, foot, step{})
}

// take makes the call.
func (s step) take(t *testing.T, d *disk.Disk) {
	t.Helper()
	err := api.OK
	if s.b == nil {
		err = d.Flush()
	} else {
		err = d.Write(s.at, s.b)
	}
	wants(t, "P3.2", err, api.OK)
}

// held fails if two disks haven't the same octets, writes that wait, and writes at all; so behind a crash that loses all that waits.
func held(t *testing.T, promise string, got, want *disk.Disk) {
	t.Helper()
	if !bytes.Equal(got.Image(), want.Image()) || got.Waiting() != want.Waiting() || got.Writes() != want.Writes() {
		t.Fatalf("%s: other octets, or %d wait and %d were written, not %d and %d", promise, got.Waiting(), got.Writes(), want.Waiting(), want.Writes())
	}
	got.Crash(api.Crash{Torn: -1})
	want.Crash(api.Crash{Torn: -1})
	if !bytes.Equal(got.Image(), want.Image()) {
		t.Fatalf("%s: other octets are safe", promise)
	}
}

// TestCalls holds the calls of the disk on the way of an Append, one by one, against the chapter's words: behind as many of them as there is power for the disk is as behind so many steps.
func TestCalls(t *testing.T) {
	const from, n, epoch = 2, 7, 6
	seen := map[int]int{}
	for start := range n {
		for _, size := range []int{1, 112, 113, 300, 448, 560, 672} {
			all := cut(epoch, 0, some(size, start))
			list := steps(from, n, start, all)
			seen[len(list)]++
			for power := range len(list) + 1 {
				d, e := spun(t, n+4), spun(t, n+4)
				j := made(t, d, from, n, epoch, start)
				m := &model{n: n, epoch: epoch, start: start}
				for _, s := range list[:power] {
					s.take(t, e)
				}
				d.Limit(power)
				err := j.Append(some(size, start))
				if power < len(list) {
					wants(t, "P7.2: the power fails", err, api.ErrOff)
					m.dead = true
				} else {
					wants(t, "P7.2: there is power enough", err, m.append(some(size, start)))
				}
				if _, err := d.Read(0, 1); err != api.ErrOff {
					t.Fatalf("P7.2: fewer calls of the disk than %d", power)
				}
				same(t, "P7.2: behind Append", j, m)
				held(t, "P7.2: the calls of the disk", d, e)
				if m.dead {
					stays(t, d, j, m)
				}
			}
		}
	}
	if seen[4] == 0 || seen[5] == 0 || len(seen) != 2 {
		t.Errorf("P7.2: how many calls: %v", seen)
	}
}

// stays fails if a dead journal answers otherwise than ErrOff, or calls the disk, whose power is on again.
func stays(t *testing.T, d *disk.Disk, j *journal.Journal, m *model) {
	t.Helper()
	was, writes := d.Image(), d.Writes()
	d.Limit(1)
	for range 2 {
		wants(t, "P7.3: a dead one", j.Append([]byte{1}), api.ErrOff)
		wants(t, "P7.3: a dead one, ErrOff ahead of ErrArg", j.Append(nil), api.ErrOff)
		wants(t, "P7.3: a dead one, ErrOff ahead of ErrArg", j.Append(make([]byte, 65001)), api.ErrOff)
		wants(t, "P7.3: a dead one, ErrOff ahead of ErrLog", j.Append(make([]byte, 65000)), api.ErrOff)
		wants(t, "P7.3: a dead one", j.Reset(), api.ErrOff)
		same(t, "P7.3: a dead one", j, m)
	}
	if d.Writes() != writes || !bytes.Equal(d.Image(), was) {
		t.Fatal("P7.3: a dead one wrote")
	}
	if _, err := d.Read(0, 1); err != api.OK {
		t.Fatal("P7.3: a dead one called the disk")
	}
	d.Limit(-1)
}

// TestErrorsBeforeTheDisk: what is refused makes no journal dead, and calls no disk, be the power off.
func TestErrorsBeforeTheDisk(t *testing.T) {
	d := spun(t, 8)
	j := made(t, d, 0, 8, 1, 0)
	m := &model{n: 8, epoch: 1}
	d.Limit(0)
	wants(t, "P7.2: with the power off", j.Append(nil), api.ErrArg)
	wants(t, "P7.2: with the power off", j.Append(make([]byte, 65001)), api.ErrArg)
	wants(t, "P7.2: with the power off", j.Append(make([]byte, 785)), api.ErrLog)
	same(t, "P7.2: with the power off", j, m)
	d.Limit(-1)
	wants(t, "P7.2: it isn't dead", j.Append(make([]byte, 784)), m.append(make([]byte, 784)))
	same(t, "P7.2: it isn't dead", j, m)
}

// TestDirty puts the epoch's octets into one sector behind those used, or into one of those, and looks at what is beside them.
func TestDirty(t *testing.T) {
	const n, epoch, start = 9, 0x01020304, 6
	d := spun(t, n)
	j := made(t, d, 0, n, epoch, start)
	wants(t, "P7.2", j.Append(some(200, 1)), api.OK)
	wants(t, "P7.2", j.Append(some(1, 2)), api.OK)
	image := d.Image()
	laid := []byte{4, 3, 2, 1}
	for i := range n - 5 {
		at := (start+5+i)%n*128 + 1
		for octet := range 127 - 3 {
			b := bytes.Clone(image)
			copy(b[at-1+octet:], laid)
			e, _ := disk.Load(b)
			k, m := opened(t, e, 0, n, epoch, start)
			if len(m.list) != 2 || k.Dirty() != (octet == 1) {
				t.Fatalf("P7.2: the epoch at octet %d of a sector behind: %d payloads, dirty %v", octet, len(m.list), k.Dirty())
			}
			if !k.Dirty() {
				continue
			}
			wants(t, "P7.2: a dirty one", k.Append(some(10, 1)), api.ErrBusy)
			wants(t, "P7.2: a dirty one, ErrBusy ahead of ErrArg", k.Append(nil), api.ErrBusy)
			wants(t, "P7.2: a dirty one, ErrBusy ahead of ErrLog", k.Append(make([]byte, 60000)), api.ErrBusy)
			same(t, "P7.2: a dirty one", k, m)
			if e.Writes() != 0 {
				t.Fatal("P7.2: a dirty one wrote")
			}
			wants(t, "P7.3: Reset of a dirty one", k.Reset(), m.reset())
			same(t, "P7.3: Reset of a dirty one", k, m)
			wants(t, "P7.3: Append behind Reset", k.Append(some(10, 1)), m.append(some(10, 1)))
			_, o := opened(t, e, 0, n, epoch+1, (start+5)%n)
			lists(t, "P7.3: Append behind Reset", o.list, m.list)
		}
		for octet := range 4 {
			b := bytes.Clone(image)
			copy(b[at:], laid)
			b[at+octet] ^= 1 << octet
			e, _ := disk.Load(b)
			if k, _ := opened(t, e, 0, n, epoch, start); k.Dirty() {
				t.Fatalf("P7.2: another epoch's octets make it dirty")
			}
		}
	}
	// What is outside of the ring isn't looked at.
	b := bytes.Repeat(append([]byte{'P'}, append(laid, make([]byte, 123)...)...), n+6)
	copy(b[3*128:], image)
	e, _ := disk.Load(b)
	if k, m := opened(t, e, 3, n, epoch, start); k.Dirty() || len(m.list) != 2 {
		t.Error("P7.2: sectors outside of the ring make it dirty")
	}
	// Where nothing stands, a sector of the epoch makes it dirty, the first one and the last one too.
	for at := range n {
		b := make([]byte, n*128)
		copy(b[at*128+1:], laid)
		e, _ := disk.Load(b)
		if k, m := opened(t, e, 0, n, epoch, start); !k.Dirty() || len(m.list) != 0 {
			t.Errorf("P7.2: the epoch in sector %d alone doesn't make it dirty", at)
		}
	}
}

// TestSpoilt turns an octet in each sector of a ring that is full: what is ahead of that transaction stands, and nothing behind it.
func TestSpoilt(t *testing.T) {
	const n, epoch, start = 11, 77, 8
	d := spun(t, n)
	j := made(t, d, 0, n, epoch, start)
	of := []int{}
	for i, size := range []int{200, 112, 300, 5} {
		wants(t, "P7.2", j.Append(some(size, i)), api.OK)
		for range sectors(size) {
			of = append(of, i)
		}
	}
	image := d.Image()
	if len(of) != n {
		t.Fatal("the ring isn't full")
	}
	for i := range n {
		for _, octet := range []int{0, 1, 4, 5, 8, 9, 10, 11, 12, 60, 123, 124, 127} {
			b := bytes.Clone(image)
			b[(start+i)%n*128+octet] ^= 0x10
			e, _ := disk.Load(b)
			if _, m := opened(t, e, 0, n, epoch, start); len(m.list) != of[i] || !m.dirty {
				t.Fatalf("P7.1: octet %d of sector %d turned: %d payloads, dirty %v", octet, i, len(m.list), m.dirty)
			}
		}
	}
	// From another place on nothing stands, as no other transaction has the count 0, but all is of the epoch.
	for other := range n {
		e, _ := disk.Load(image)
		if _, m := opened(t, e, 0, n, epoch, other); other != start && (len(m.list) != 0 || !m.dirty) {
			t.Fatalf("P7.1: from %d on: %d payloads", other, len(m.list))
		}
	}
}

// TestRings holds Open against the model on rings of sectors of all kinds: whole transactions, pieces, other epochs and counts, octets that are none.
func TestRings(t *testing.T) {
	u := dice(3)
	most := 0
	for range 4000 {
		n := 4 + u.below(12)
		epoch := []int{1, 2, 257, lastEpoch}[u.below(4)]
		start := u.below(n)
		b := make([]byte, n*128)
		number := 0
		for i := 0; i < n; {
			payload := some(1+u.below(300), u.below(1000))
			e, k := epoch, number
			switch u.below(12) {
			case 0:
				e = max(1, epoch-1)
			case 1:
				k = u.below(4)
			}
			all := cut(e, k, payload)
			switch u.below(10) {
			case 0:
				all = all[u.below(len(all)):]
			case 1:
				all = all[:u.below(len(all)+1)]
			case 2:
				x := u.below(len(all))
				all[x][u.below(128)] ^= 1 << u.below(8)
			case 3:
				x, y := u.below(len(all)), u.below(len(all))
				all[x], all[y] = all[y], all[x]
			case 4:
				all = [][]byte{make([]byte, 128)}
			}
			for _, x := range all {
				// The last one may go over the ring's first sectors, now and then.
				if i < n || u.below(8) == 0 {
					copy(b[(start+i)%n*128:], x)
					i++
				}
			}
			number++
		}
		d, err := disk.Load(b)
		wants(t, "P3.1", err, api.OK)
		_, m := opened(t, d, 0, n, epoch, start)
		most = max(most, len(m.list))
	}
	if most < 4 {
		t.Errorf("P7.1: at most %d payloads were seen", most)
	}
}

// TestBeyondTheRing: a transaction that would go on behind as many sectors as there are doesn't stand, though what is ahead of it does.
func TestBeyondTheRing(t *testing.T) {
	const n, epoch = 5, 9
	all := append(cut(epoch, 0, some(120, 1)), cut(epoch, 1, some(240, 2))...)
	for start := range n {
		b := make([]byte, n*128)
		for i, x := range all[:n] {
			copy(b[(start+i)%n*128:], x)
		}
		d, _ := disk.Load(b)
		_, m := opened(t, d, 0, n, epoch, start)
		lists(t, "P7.1: one that would go on behind the ring", m.list, [][]byte{some(120, 1)})
		if m.used != 3 || !m.dirty {
			t.Errorf("P7.1: %d used, dirty %v", m.used, m.dirty)
		}
	}
}

// keeper is somebody who uses a journal, and remembers what it must have.
type keeper struct {
	t       *testing.T
	d       *disk.Disk
	from, n int

	j            *journal.Journal
	epoch, start int
	sure         [][]byte // what no crash may lose
	perhaps      [][]byte // what may stand behind it, from the first one on
}

// appends appends a payload, with power for so many calls (below 0: for all).
func (k *keeper) appends(payload []byte, power int) api.Errno {
	k.t.Helper()
	k.d.Limit(power)
	err := k.j.Append(payload)
	switch {
	case err == api.OK:
		k.sure = append(append(k.sure, k.perhaps...), payload)
		k.perhaps = nil
	case err == api.ErrOff && power >= 0:
		k.perhaps = append(k.perhaps, payload)
	case err != api.ErrLog && err != api.ErrBusy:
		k.t.Fatalf("P7.2: Append answered %d", int(err))
	}
	return err
}

// reset begins a new epoch.
func (k *keeper) reset() {
	k.t.Helper()
	place := k.j.Place()
	wants(k.t, "P7.3: Reset", k.j.Reset(), api.OK)
	k.epoch, k.start = k.epoch+1, place
	k.sure, k.perhaps = nil, nil
	if k.j.Epoch() != k.epoch || k.j.Place() != place || k.j.Used() != 0 || k.j.Dirty() {
		k.t.Fatal("P7.3: Reset")
	}
}

// opens opens the journal again, and looks whether just that stands which may: behind a crash that is sure from now on.
func (k *keeper) opens(crashed bool) {
	k.t.Helper()
	j, m := opened(k.t, k.d, k.from, k.n, k.epoch, k.start)
	may := append(append([][]byte{}, k.sure...), k.perhaps...)
	if len(m.list) < len(k.sure) || len(m.list) > len(may) {
		k.t.Fatalf("P7.4: %d payloads stand: %d are sure, and %d may be", len(m.list), len(k.sure), len(may))
	}
	lists(k.t, "P7.4: what stands", m.list, may[:len(m.list)])
	k.j = j
	if crashed {
		k.sure, k.perhaps = m.list, nil
	} else {
		k.perhaps = m.list[len(k.sure):]
	}
}

// crashes crashes the disk, and opens the journal again.
func (k *keeper) crashes(x api.Crash) {
	k.t.Helper()
	k.d.Crash(x)
	k.opens(true)
}

// chance is a crash that keeps some of the writes that wait, and tears one, or none.
func (u *dice) chance(waiting int) api.Crash {
	x := api.Crash{Torn: u.below(waiting+1) - 1, Cut: u.below(130)}
	if u.below(2) == 0 {
		x.Cut = 1 + u.below(6)
	}
	for i := range waiting {
		if u.below(2) == 0 {
			x.Keep = append(x.Keep, i)
		}
	}
	return x
}

// goesOn appends more, with crashes in between, as one who was told that it is dirty begins a new epoch.
func (k *keeper) goesOn(u *dice, rounds int) {
	k.t.Helper()
	for range rounds {
		payload := some(1+u.below(330), u.below(1000))
		if k.j.Dirty() {
			wants(k.t, "P7.4: a dirty one", k.appends(payload, -1), api.ErrBusy)
			k.reset()
		}
		if !k.j.Fits(len(payload)) {
			wants(k.t, "P7.4: a full one", k.appends(payload, -1), api.ErrLog)
			k.reset()
		}
		if k.appends(payload, u.below(7)-1) == api.OK && u.below(2) == 0 {
			continue
		}
		if u.below(4) == 0 {
			// The power comes again without a crash: what waited waits still.
			k.d.Limit(-1)
			k.opens(false)
			continue
		}
		k.crashes(u.chance(k.d.Waiting()))
	}
	k.crashes(api.Crash{Torn: -1})
}

// before are the octets of a ring's sectors ahead of an epoch: noughts, an elder epoch's transactions all over, or octets that are none.
func before(kind, n, epoch int) []byte {
	b := make([]byte, 0, n*128)
	switch kind {
	case 0:
		return b[:n*128]
	case 1:
		for i := range n / 2 {
			b = append(b, bytes.Join(cut(epoch-1, i, some(60, i)), nil)...)
		}
		return b[:n*128]
	}
	return append(b, some(n*128, kind)...)
}

// trial is an Append on the way of which the power fails.
type trial struct {
	kind, n, epoch, start, size, power int
}

// trials are those of a small ring, from each place on.
func trials() []trial {
	const n = 6
	var all []trial
	for kind := range 3 {
		for _, epoch := range []int{0x0202, 0x0300, lastEpoch - 1000} {
			for start := range n {
				for _, size := range []int{60, 200, 300} {
					for power := range 5 {
						all = append(all, trial{kind, n, epoch, start, size, power})
					}
				}
			}
		}
	}
	return all
}

// fails is somebody behind that Append, with the crash still to come.
func (c trial) fails(t *testing.T) *keeper {
	t.Helper()
	d, err := disk.Load(append(append(make([]byte, 128), before(c.kind, c.n, c.epoch)...), make([]byte, 128)...))
	wants(t, "P3.1", err, api.OK)
	k := &keeper{t: t, d: d, from: 1, n: c.n, epoch: c.epoch, start: c.start, j: made(t, d, 1, c.n, c.epoch, c.start)}
	if c.size < 300 {
		wants(t, "P7.2", k.appends(some(40, 9), -1), api.OK)
	}
	payload := some(c.size, 8)
	calls := len(steps(1, c.n, k.j.Place(), cut(c.epoch, len(k.sure), payload)))
	want := api.OK
	if c.power < calls {
		want = api.ErrOff
	}
	wants(t, "P7.2: the power fails", k.appends(payload, c.power), want)
	if c.power < calls-1 {
		// The foot wasn't written yet: it can't stand.
		k.perhaps = nil
	}
	return k
}

// choices are the crashes that keep each choice of the writes that wait, and tear each one of the others, behind many an octet, or none.
func choices(waiting int) []api.Crash {
	var all []api.Crash
	for choice := range 1 << waiting {
		var keep []int
		for i := range waiting {
			if choice>>i&1 == 1 {
				keep = append(keep, i)
			}
		}
		all = append(all, api.Crash{Keep: keep, Torn: -1})
		for torn := range waiting {
			if choice>>torn&1 == 1 {
				continue
			}
			for _, cut := range []int{1, 2, 3, 4, 5, 12, 64, 123, 125, 127} {
				all = append(all, api.Crash{Keep: keep, Torn: torn, Cut: cut})
			}
		}
	}
	return all
}

// TestEachCrash lets the power fail at each call of the disk on the way of an Append, with each crash behind it; and goes on from there.
func TestEachCrash(t *testing.T) {
	u := dice(1)
	stood, soiled, clean := 0, 0, 0
	for _, c := range trials() {
		for _, x := range choices(c.fails(t).d.Waiting()) {
			k := c.fails(t)
			sure := len(k.sure)
			k.crashes(x)
			switch {
			case len(k.sure) > sure:
				stood++
			case k.j.Dirty():
				soiled++
			default:
				clean++
			}
			k.goesOn(&u, 1+u.below(2))
		}
	}
	if stood == 0 || soiled == 0 || clean == 0 {
		t.Errorf("P7.4: %d stood, %d were dirty, %d were clean", stood, soiled, clean)
	}
}

// TestManyCrashes goes on and on with one disk.
func TestManyCrashes(t *testing.T) {
	for row := range 40 {
		u := dice(row)
		from, n := u.below(4), 4+u.below(20)
		b := append(append(some(from*128, 1), before(row%3, n, 50)...), some(256, 2)...)
		d, err := disk.Load(b)
		wants(t, "P3.1", err, api.OK)
		start := u.below(n)
		k := &keeper{t: t, d: d, from: from, n: n, epoch: 50, start: start, j: made(t, d, from, n, 50, start)}
		k.goesOn(&u, 300)
		now := d.Image()
		if !bytes.Equal(now[:from*128], b[:from*128]) || !bytes.Equal(now[(from+n)*128:], b[(from+n)*128:]) {
			t.Error("P7.4: a sector outside of the ring was written")
		}
	}
}
