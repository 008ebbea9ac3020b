package record_test

import (
	"bytes"
	"encoding/binary"
	"hash/crc32"
	"math"
	"slices"
	"testing"

	"mothball/api"
	"mothball/record"
)

// plain is a part with another number in each field.
var plain = api.Part{Epoch: 2, Number: 258, Index: 3, Data: []byte("moth")}

// field is one that has ends, and how it is set.
type field struct {
	name        string
	least, most int
	set         func(p *api.Part, n int)
	size        int // how many octets it has in the sector
}

// fields are those that are numbers.
func fields() []field {
	return []field{
		{"Epoch", 1, 1 << 31, func(p *api.Part, n int) { p.Epoch = n }, 4},
		{"Number", 0, 1 << 31, func(p *api.Part, n int) { p.Number = n }, 4},
		{"Index", 0, 65535, func(p *api.Part, n int) { p.Index = n }, 2},
	}
}

// with is plain, or a foot like it, with a field set.
func (f field) with(n int, foot bool) api.Part {
	p := plain
	p.Foot = foot
	f.set(&p, n)
	return p
}

// tried are a field's numbers at its ends, beyond them, and far away; some of them have low octets that are right.
func (f field) tried() []int {
	return []int{
		f.least, f.least + 1, f.most - 1, f.most, (f.least + f.most) / 2, 255, 256,
		f.least - 1, f.most + 1, f.least - 2, f.most + 2, -f.most, 2*f.most + 1, 1<<32 - 1,
		f.least + 1<<32, f.most + 1<<32, f.least - 1<<32, f.least + 1<<56, f.least | math.MinInt,
		1 << 62, math.MaxInt, math.MaxInt - 1, math.MinInt, math.MinInt + 1,
	}
}

// edges are parts that can be put, with each field at its ends.
func edges() []api.Part {
	all := []api.Part{
		plain,
		{Epoch: 1},
		{Foot: true, Epoch: 1},
		{Epoch: 1 << 31, Number: 1 << 31, Index: 65535, Data: bytes.Repeat([]byte{255}, 112)},
		{Foot: true, Epoch: 1 << 31, Number: 1 << 31, Index: 65535, Data: bytes.Repeat([]byte{255}, 112)},
		{Epoch: 1<<31 - 1, Number: 1<<31 - 1, Index: 65534, Data: make([]byte, 111)},
	}
	for _, foot := range []bool{false, true} {
		for _, f := range fields() {
			for _, n := range []int{f.least, f.least + 1, f.most - 1, f.most} {
				all = append(all, f.with(n, foot))
			}
		}
		for n := range 113 {
			all = append(all, api.Part{Foot: foot, Epoch: 9, Number: 8, Index: 7, Data: some(n, n)})
		}
	}
	return all
}

// some are n octets, another row of them by each number.
func some(n, row int) []byte {
	b := make([]byte, n)
	u := dice(row)
	for i := range b {
		b[i] = byte(u.below(256))
	}
	return b
}

// dice are numbers that look as if by chance, the same ones every time.
type dice uint64

// below is a number from 0 to n - 1.
func (u *dice) below(n int) int {
	*u = *u*6364136223846793005 + 1442695040888963407
	return int(uint64(*u)>>33) % n
}

// part is one that can be put.
func (u *dice) part() api.Part {
	return api.Part{
		Foot:   u.below(2) == 1,
		Epoch:  1 + u.below(1<<31)>>u.below(31),
		Number: u.below(1<<31) >> u.below(31),
		Index:  u.below(1<<16) >> u.below(16),
		Data:   some(u.below(113), u.below(1<<30)),
	}
}

// right is what the chapter says of a part that can be put.
func right(p api.Part) bool {
	switch {
	case p.Epoch < 1, p.Epoch > 2147483648, p.Number < 0, p.Number > 2147483648:
		return false
	}
	return p.Index >= 0 && p.Index <= 65535 && len(p.Data) <= 112
}

// alike: are two parts the same?
func alike(p, q api.Part) bool {
	return p.Foot == q.Foot && p.Epoch == q.Epoch && p.Number == q.Number && p.Index == q.Index && bytes.Equal(p.Data, q.Data)
}

// nothing: is it the zero part?
func nothing(p api.Part) bool { return alike(p, api.Part{}) }

// sealed is 128 octets with the sum of the first 124 in the last four.
func sealed(b []byte) []byte {
	b = bytes.Clone(b)
	binary.LittleEndian.PutUint32(b[124:], crc32.ChecksumIEEE(b[:124]))
	return b
}

// laid is the sector that the chapter's words say of a part, be it right or not, but for its Data, which is at most 112 octets.
func laid(p api.Part) []byte {
	b := []byte("P")
	if p.Foot {
		b = []byte("F")
	}
	b = binary.LittleEndian.AppendUint32(b, uint32(p.Epoch))
	b = binary.LittleEndian.AppendUint32(b, uint32(p.Number))
	b = binary.LittleEndian.AppendUint16(b, uint16(p.Index))
	b = append(b, byte(len(p.Data)))
	b = append(b, p.Data...)
	return sealed(append(b, make([]byte, 128-len(b))...))
}

// told is the part of which the chapter's words say that octets are its sector.
func told(b []byte) (api.Part, bool) {
	if len(b) != 128 || b[0] != 'P' && b[0] != 'F' || b[11] > 112 {
		return api.Part{}, false
	}
	end := 12 + int(b[11])
	p := api.Part{
		Foot:   b[0] == 'F',
		Epoch:  int(binary.LittleEndian.Uint32(b[1:])),
		Number: int(binary.LittleEndian.Uint32(b[5:])),
		Index:  int(binary.LittleEndian.Uint16(b[9:])),
		Data:   bytes.Clone(b[12:end]),
	}
	sum := binary.LittleEndian.Uint32(b[124:])
	if !right(p) || len(bytes.Trim(b[end:124], "\x00")) > 0 || sum != crc32.ChecksumIEEE(b[:124]) {
		return api.Part{}, false
	}
	return p, true
}

// list are the parts that the chapter's words say of a transaction, its foot last.
func list(epoch, number int, payload []byte) []api.Part {
	var all []api.Part
	for rest := payload; len(rest) > 0; {
		n := min(len(rest), 112)
		all = append(all, api.Part{Epoch: epoch, Number: number, Index: len(all), Data: rest[:n]})
		rest = rest[n:]
	}
	sum := binary.LittleEndian.AppendUint32(nil, crc32.ChecksumIEEE(payload))
	return append(all, api.Part{Foot: true, Epoch: epoch, Number: number, Index: len(all), Data: sum})
}

// row are parts' sectors, one behind the other.
func row(parts []api.Part) []byte {
	var b []byte
	for _, p := range parts {
		b = append(b, laid(p)...)
	}
	return b
}

// joined is the payload, and how many sectors it has, of the transaction of which the chapter's words say that it is at the beginning of octets.
func joined(b []byte, epoch, number int) ([]byte, int) {
	var payload []byte
	ended := false
	for i := 0; len(b) >= 128; i++ {
		p, ok := told(b[:128])
		b = b[128:]
		if !ok || p.Epoch != epoch || p.Number != number || p.Index != i {
			return nil, 0
		}
		if p.Foot {
			sum := binary.LittleEndian.AppendUint32(nil, crc32.ChecksumIEEE(payload))
			if !bytes.Equal(p.Data, sum) || len(payload) < 1 || len(payload) > 65000 {
				return nil, 0
			}
			return payload, i + 1
		}
		if ended || len(p.Data) == 0 {
			return nil, 0
		}
		ended = len(p.Data) < 112
		payload = append(payload, p.Data...)
	}
	return nil, 0
}

// put is the sector that the program answers.
func put(t *testing.T, p api.Part) []byte {
	t.Helper()
	b, err := record.Put(p)
	if err != api.OK || len(b) != 128 {
		t.Fatalf("P6.1: Put(%+v): %d octets, %v", p, len(b), err)
	}
	return b
}

// cut are the sectors that the program answers.
func cut(t *testing.T, epoch, number int, payload []byte) []byte {
	t.Helper()
	b, err := record.Cut(epoch, number, payload)
	if err != api.OK {
		t.Fatalf("P6.2: Cut(%d, %d, %d octets): %v", epoch, number, len(payload), err)
	}
	return b
}

// none fails if octets are taken for a part's sector.
func none(t *testing.T, what string, b []byte) {
	t.Helper()
	if p, ok := record.Get(b); ok || !nothing(p) {
		t.Errorf("P6.1: Get: %s: %+v, %v", what, p, ok)
	}
}

// whole fails if at the beginning of octets there isn't the transaction with that payload.
func whole(t *testing.T, what string, b []byte, epoch, number int, payload []byte) {
	t.Helper()
	got, n := record.Join(b, epoch, number)
	if !bytes.Equal(got, payload) || n != len(list(epoch, number, payload)) {
		t.Errorf("P6.3: Join: %s: %d octets, %d sectors; not the payload of %d octets", what, len(got), n, len(payload))
	}
}

// broken fails if at the beginning of octets there is a transaction of that epoch and number.
func broken(t *testing.T, what string, b []byte, epoch, number int) {
	t.Helper()
	if got, n := record.Join(b, epoch, number); len(got) != 0 || n != 0 {
		t.Errorf("P6.3: Join: %s: %d octets, %d sectors", what, len(got), n)
	}
}

// join is pieces, one behind the other.
func join(pieces ...[]byte) []byte { return bytes.Join(pieces, nil) }

// lengths are those of payloads at the edges.
func lengths() []int {
	return []int{1, 2, 111, 112, 113, 114, 223, 224, 225, 300, 336, 337, 1000, 64847, 64848, 64849, 64959, 64960, 64961, 64999, 65000}
}

func TestPutOctetByOctet(t *testing.T) {
	b := put(t, api.Part{Epoch: 0x04030201, Number: 0x08070605, Index: 0x0a09, Data: []byte("abcde")})
	want := "P" + "\x01\x02\x03\x04" + "\x05\x06\x07\x08" + "\x09\x0a" + "\x05" + "abcde" + string(make([]byte, 107))
	if string(b[:124]) != want {
		t.Errorf("P6.1: Put: %x, not %x", b[:124], want)
	}
	if sum := binary.LittleEndian.Uint32(b[124:]); sum != crc32.ChecksumIEEE(b[:124]) {
		t.Errorf("P6.1: Put: the sum is %08x", sum)
	}
	b = put(t, api.Part{Foot: true, Epoch: 1 << 31, Number: 1 << 31, Index: 65535, Data: bytes.Repeat([]byte("x"), 112)})
	want = "F" + "\x00\x00\x00\x80" + "\x00\x00\x00\x80" + "\xff\xff" + "\x70" + string(bytes.Repeat([]byte("x"), 112))
	if string(b[:124]) != want {
		t.Errorf("P6.1: Put of a foot: %x, not %x", b[:124], want)
	}
	if sum := binary.LittleEndian.Uint32(b[124:]); sum != crc32.ChecksumIEEE(b[:124]) {
		t.Errorf("P6.1: Put of a foot: the sum is %08x", sum)
	}
	b = put(t, api.Part{Epoch: 1})
	want = "P\x01" + string(make([]byte, 122))
	if string(b[:124]) != want {
		t.Errorf("P6.1: Put of the least one: %x, not %x", b[:124], want)
	}
}

func TestPutAtTheEnds(t *testing.T) {
	for _, foot := range []bool{false, true} {
		for _, f := range fields() {
			for _, n := range f.tried() {
				p := f.with(n, foot)
				b, err := record.Put(p)
				if n >= f.least && n <= f.most {
					if err != api.OK || !bytes.Equal(b, laid(p)) {
						t.Errorf("P6.1: Put with %s %d: %x, %v", f.name, n, b, err)
					}
				} else if err != api.ErrArg || len(b) != 0 {
					t.Errorf("P6.1: Put with %s %d: %d octets, %v", f.name, n, len(b), err)
				}
			}
		}
		for n := range 700 {
			p := api.Part{Foot: foot, Epoch: 1, Data: some(n, n)}
			b, err := record.Put(p)
			if n <= 112 {
				if err != api.OK || !bytes.Equal(b, laid(p)) {
					t.Errorf("P6.1: Put of %d octets: %x, %v", n, b, err)
				}
			} else if err != api.ErrArg || len(b) != 0 {
				t.Errorf("P6.1: Put of %d octets: %d octets, %v", n, len(b), err)
			}
		}
	}
	for _, p := range []api.Part{{}, {Foot: true}, {Data: []byte("abc")}, {Number: 1, Index: 1}} {
		if b, err := record.Put(p); err != api.ErrArg || len(b) != 0 {
			t.Errorf("P6.1: Put(%+v): %d octets, %v", p, len(b), err)
		}
	}
}

func TestPartThereAndBack(t *testing.T) {
	all := edges()
	u := dice(6)
	for range 2000 {
		all = append(all, u.part())
	}
	for _, p := range all {
		if !right(p) {
			t.Fatalf("the test's own part isn't right: %+v", p)
		}
		b := put(t, p)
		if !bytes.Equal(b, laid(p)) {
			t.Errorf("P6.1: Put(%+v): %x", p, b)
		}
		if got, ok := record.Get(b); !ok || !alike(got, p) {
			t.Errorf("P6.4: %+v came back as %+v, %v", p, got, ok)
		}
	}
}

// TestGetOfSealedOnes: the sum alone makes no part.
func TestGetOfSealedOnes(t *testing.T) {
	for _, foot := range []bool{false, true} {
		for _, f := range fields() {
			for _, n := range f.tried() {
				// What the field's octets can't tell is another number there.
				if n < 0 || n >= 1<<(8*f.size) || n >= f.least && n <= f.most {
					continue
				}
				none(t, f.name+" isn't right, but sealed", laid(f.with(n, foot)))
			}
		}
	}
	for _, p := range []api.Part{plain, edges()[1], edges()[4], {Epoch: 1, Data: make([]byte, 112)}} {
		b := laid(p)
		for i := range 124 {
			for octet := range 256 {
				x := bytes.Clone(b)
				x[i] = byte(octet)
				x = sealed(x)
				// In a field, or in Data, it may be another part's sector.
				want, is := told(x)
				if got, ok := record.Get(x); !alike(got, want) || ok != is {
					t.Errorf("P6.1: Get with octet %d %d, sealed: %+v, %v", i, octet, got, ok)
				}
			}
		}
	}
	none(t, "noughts, sealed", sealed(make([]byte, 128)))
	none(t, "ones, sealed", sealed(bytes.Repeat([]byte{255}, 128)))
}

func TestGetOfOtherMarks(t *testing.T) {
	for mark := range 256 {
		x := laid(plain)
		x[0] = byte(mark)
		p, ok := record.Get(sealed(x))
		switch mark {
		case 'P':
			if !ok || p.Foot {
				t.Errorf("P6.1: Get with P: %+v, %v", p, ok)
			}
		case 'F':
			if !ok || !p.Foot {
				t.Errorf("P6.1: Get with F: %+v, %v", p, ok)
			}
		default:
			none(t, "another mark, sealed", sealed(x))
		}
	}
}

// TestGetOfOtherCounts: of 112 octets, of which the last ones are noughts, each count of at least as many as aren't is a part's; a greater one than 112 is none's.
func TestGetOfOtherCounts(t *testing.T) {
	for count := range 256 {
		x := laid(plain)
		x[11] = byte(count)
		x = sealed(x)
		if count < len(plain.Data) || count > 112 {
			none(t, "another count, sealed", x)
			continue
		}
		want := plain
		want.Data = append(bytes.Clone(plain.Data), make([]byte, count-len(plain.Data))...)
		if p, ok := record.Get(x); !ok || !alike(p, want) {
			t.Errorf("P6.1: Get with the count %d: %+v, %v", count, p, ok)
		}
	}
}

func TestGetOfNoNoughts(t *testing.T) {
	for _, n := range []int{0, 1, 4, 110, 111} {
		b := laid(api.Part{Epoch: 1, Data: some(n, n)})
		for i := 12 + n; i < 124; i++ {
			for _, octet := range []byte{1, 128} {
				x := bytes.Clone(b)
				x[i] = octet
				none(t, "no nought where one stands, sealed", sealed(x))
			}
		}
	}
}

func TestGetOfWrongLengths(t *testing.T) {
	b := put(t, plain)
	long := join(b, b, make([]byte, 300))
	for n := range len(long) + 1 {
		if n != 128 {
			none(t, "a wrong length", long[:n])
		}
	}
	none(t, "nil", nil)
	none(t, "empty", []byte{})
	none(t, "noughts", make([]byte, 128))
	none(t, "ones", bytes.Repeat([]byte{255}, 128))
	none(t, "a later piece", long[1:129])
	// Spare room behind the octets isn't octets.
	if p, ok := record.Get(long[:128]); !ok || !alike(p, plain) {
		t.Errorf("P6.1: Get: %+v, %v", p, ok)
	}
	none(t, "one octet is in the spare room", long[:127])
}

// TestGetOfCutNoughts: a sector that lacks but noughts at its end is none, nor is one with noughts behind it; nor sealed octets of another length.
func TestGetOfCutNoughts(t *testing.T) {
	tried := 0
	for number := range 2000 {
		p := plain
		p.Number = number
		b := put(t, p)
		if b[127] != 0 {
			continue
		}
		tried++
		for _, x := range [][]byte{b[:127], join(b, make([]byte, 1)), join(b, make([]byte, 128))} {
			none(t, "noughts at the end", x)
		}
	}
	if tried == 0 {
		t.Fatal("no sector ends with a nought")
	}
	for _, n := range []int{0, 12, 16, 123, 125, 252} {
		body := make([]byte, n)
		copy(body, laid(plain)[:124])
		none(t, "sealed octets of another length", binary.LittleEndian.AppendUint32(body, crc32.ChecksumIEEE(body)))
	}
}

func TestTurned(t *testing.T) {
	for _, p := range []api.Part{plain, edges()[2], edges()[3]} {
		b := put(t, p)
		for i := range b {
			for octet := range 256 {
				if byte(octet) == b[i] {
					continue
				}
				x := bytes.Clone(b)
				x[i] = byte(octet)
				none(t, "an octet turned", x)
			}
		}
	}
}

// TestTorn: a piece of a newer sector over an older one, cut anywhere.
func TestTorn(t *testing.T) {
	a := put(t, api.Part{Epoch: 1, Number: 2, Index: 3, Data: some(112, 1)})
	b := put(t, api.Part{Foot: true, Epoch: 4, Number: 5, Index: 6, Data: some(112, 2)})
	for at := 1; at < 128; at++ {
		none(t, "a torn one", join(b[:at], a[at:]))
		none(t, "a torn one over noughts", join(b[:at], make([]byte, 128-at)))
	}
}

func TestSectors(t *testing.T) {
	for _, c := range []struct{ payload, want int }{
		{1, 2}, {111, 2}, {112, 2}, {113, 3}, {224, 3}, {225, 4}, {300, 4},
		{64960, 581}, {64961, 582}, {65000, 582}, {65001, 0}, {0, 0}, {-1, 0}, {-112, 0}, {-65000, 0}, {65072, 0}, {65536, 0},
		{1<<32 + 112, 0}, {1<<62 + 112, 0}, {math.MaxInt, 0}, {math.MaxInt - 111, 0}, {math.MinInt, 0}, {math.MinInt + 1, 0}, {math.MinInt | 112, 0},
	} {
		if n := record.Sectors(c.payload); n != c.want {
			t.Errorf("P6.2: Sectors(%d): %d, not %d", c.payload, n, c.want)
		}
	}
	for payload := -1000; payload < 70000; payload++ {
		want := 0
		if payload >= 1 && payload <= 65000 {
			want = 1 + payload/112
			if payload%112 > 0 {
				want++
			}
		}
		if n := record.Sectors(payload); n != want {
			t.Errorf("P6.2: Sectors(%d): %d, not %d", payload, n, want)
		}
	}
}

func TestCut(t *testing.T) {
	all := lengths()
	for n := 1; n < 600; n++ {
		all = append(all, n)
	}
	for _, n := range all {
		payload := some(n, n)
		b := cut(t, 7, 9, payload)
		if !bytes.Equal(b, row(list(7, 9, payload))) {
			t.Errorf("P6.2: Cut of %d octets: not as its words say", n)
		}
		if len(b) != 128*record.Sectors(n) {
			t.Errorf("P6.2: Cut of %d octets: %d octets, of %d sectors", n, len(b), record.Sectors(n))
		}
	}
}

func TestCutOctetByOctet(t *testing.T) {
	payload := []byte("123456789")
	b := cut(t, 0x01020304, 0x11121314, payload)
	part := "P" + "\x04\x03\x02\x01" + "\x14\x13\x12\x11" + "\x00\x00" + "\x09" + "123456789" + string(make([]byte, 103))
	foot := "F" + "\x04\x03\x02\x01" + "\x14\x13\x12\x11" + "\x01\x00" + "\x04" + "\x26\x39\xf4\xcb" + string(make([]byte, 108))
	if len(b) != 256 || string(b[:124]) != part || string(b[128:252]) != foot {
		t.Errorf("P6.2: Cut: %x", b)
	}
	long := some(113, 5)
	b = cut(t, 1, 0, long)
	for i, want := range []api.Part{
		{Epoch: 1, Index: 0, Data: long[:112]},
		{Epoch: 1, Index: 1, Data: long[112:]},
		{Foot: true, Epoch: 1, Index: 2, Data: binary.LittleEndian.AppendUint32(nil, crc32.ChecksumIEEE(long))},
	} {
		if p, ok := record.Get(b[128*i : 128*i+128]); !ok || !alike(p, want) {
			t.Errorf("P6.2: Cut of 113 octets: sector %d: %+v, %v", i, p, ok)
		}
	}
}

func TestCutAtTheEnds(t *testing.T) {
	payload := some(150, 3)
	for _, f := range fields()[:2] {
		for _, n := range f.tried() {
			epoch, number := 3, 4
			if f.name == "Epoch" {
				epoch = n
			} else {
				number = n
			}
			b, err := record.Cut(epoch, number, payload)
			if n >= f.least && n <= f.most {
				if err != api.OK || !bytes.Equal(b, row(list(epoch, number, payload))) {
					t.Errorf("P6.2: Cut with %s %d: %d octets, %v", f.name, n, len(b), err)
				}
				whole(t, f.name+" at an end", b, epoch, number, payload)
			} else {
				if err != api.ErrArg || len(b) != 0 {
					t.Errorf("P6.2: Cut with %s %d: %d octets, %v", f.name, n, len(b), err)
				}
				// The sectors that it would have, and those of what its low octets say.
				broken(t, f.name+" beyond an end", row(list(epoch, number, payload)), epoch, number)
			}
		}
	}
	for _, n := range []int{0, 65001, 65002, 65072, 65073, 65536, 65537, 70000, 1 << 20} {
		if b, err := record.Cut(1, 7, make([]byte, n)); err != api.ErrArg || len(b) != 0 {
			t.Errorf("P6.2: Cut of %d octets: %d octets, %v", n, len(b), err)
		}
	}
	if b, err := record.Cut(1, 7, nil); err != api.ErrArg || len(b) != 0 {
		t.Errorf("P6.2: Cut of nil: %d octets, %v", len(b), err)
	}
}

func TestTransactionThereAndBack(t *testing.T) {
	all := lengths()
	for n := 1; n < 600; n++ {
		all = append(all, n)
	}
	for _, n := range all {
		payload := some(n, n+1)
		b := cut(t, 1<<31, 1<<31, payload)
		whole(t, "there and back", b, 1<<31, 1<<31, payload)
		whole(t, "of noughts", cut(t, 1, 0, make([]byte, n)), 1, 0, make([]byte, n))
		whole(t, "of ones", cut(t, 1, 0, bytes.Repeat([]byte{255}, n)), 1, 0, bytes.Repeat([]byte{255}, n))
	}
}

func TestJoinWithMoreBehind(t *testing.T) {
	for _, n := range []int{1, 112, 113, 65000} {
		payload := some(n, n)
		b := cut(t, 5, 6, payload)
		for _, rest := range []int{1, 2, 3, 127, 128, 129, 255, 256, 1000} {
			whole(t, "noughts behind", join(b, make([]byte, rest)), 5, 6, payload)
			whole(t, "octets behind", join(b, some(rest, rest)), 5, 6, payload)
		}
		whole(t, "another one behind", join(b, cut(t, 5, 7, some(500, 9))), 5, 6, payload)
		whole(t, "itself again behind", join(b, b), 5, 6, payload)
		whole(t, "a foot behind", join(b, b[len(b)-128:]), 5, 6, payload)
		// The one behind isn't at the beginning.
		broken(t, "another one ahead", join(cut(t, 5, 7, some(500, 9)), b), 5, 6)
		broken(t, "noughts ahead", join(make([]byte, 128), b), 5, 6)
		broken(t, "an octet ahead", join([]byte{0}, b), 5, 6)
		broken(t, "without its first octet", b[1:], 5, 6)
		// A rest doesn't count, even if it has nearly all of the last sector.
		for _, less := range []int{1, 2, 64, 127, 128} {
			broken(t, "without its last octets", b[:len(b)-less], 5, 6)
		}
		// Nor do octets in the spare room.
		broken(t, "its last octet in the spare room", join(b, b)[:len(b)-1], 5, 6)
	}
}

// TestJoinOfCutNoughts: a foot that lacks but a nought at its end isn't there.
func TestJoinOfCutNoughts(t *testing.T) {
	tried := 0
	for number := range 2000 {
		b := cut(t, 1, number, []byte("moth"))
		if b[255] == 0 {
			tried++
			broken(t, "without a nought at its end", b[:255], 1, number)
		}
	}
	if tried == 0 {
		t.Fatal("no foot ends with a nought")
	}
}

func TestJoinOneBehindTheOther(t *testing.T) {
	payloads := [][]byte{some(1, 1), some(112, 2), some(700, 3), some(225, 4)}
	var b []byte
	for i, payload := range payloads {
		b = append(b, cut(t, 3, i, payload)...)
	}
	for i, payload := range payloads {
		got, n := record.Join(b, 3, i)
		if !bytes.Equal(got, payload) || n == 0 {
			t.Fatalf("P6.3: Join: transaction %d: %d octets, %d sectors", i, len(got), n)
		}
		broken(t, "the next number", b, 3, i+1)
		b = b[128*n:]
	}
	broken(t, "no more", b, 3, len(payloads))
}

func TestJoinOfOthers(t *testing.T) {
	payload := some(300, 1)
	b := cut(t, 2, 7, payload)
	for _, c := range []struct{ epoch, number int }{
		{1, 7}, {3, 7}, {2, 6}, {2, 8}, {7, 2}, {0, 7}, {2, 0}, {-2, 7}, {2, -7}, {0, 0},
		{2 + 1<<32, 7}, {2, 7 + 1<<32}, {2 - 1<<32, 7}, {2, 7 - 1<<32}, {2 | math.MinInt, 7}, {2, 7 | math.MinInt},
		{math.MaxInt, math.MaxInt}, {math.MinInt, math.MinInt}, {2, math.MaxInt}, {math.MaxInt, 7}, {2, math.MinInt}, {math.MinInt, 7},
	} {
		broken(t, "of another epoch or number", b, c.epoch, c.number)
	}
	// A sector of another transaction among its own, with what else it ought to have.
	other := map[string][]byte{
		"another epoch":       cut(t, 3, 7, payload),
		"another number":      cut(t, 2, 8, payload),
		"another payload":     cut(t, 2, 7, some(300, 2)),
		"a shorter payload":   cut(t, 2, 7, payload[:299]),
		"a longer payload":    cut(t, 2, 7, append(bytes.Clone(payload), 0)),
		"a far other payload": cut(t, 2, 7, some(1000, 2)),
	}
	for what, o := range other {
		for at := 0; at < len(b); at += 128 {
			x := bytes.Clone(b)
			copy(x[at:at+128], o[at:])
			if got, n := joined(x, 2, 7); n != 0 && !bytes.Equal(got, payload) {
				t.Fatalf("the test's own transaction is another: %s, %d", what, at)
			}
			if bytes.Equal(x, b) {
				continue
			}
			broken(t, "a sector of one with "+what, x, 2, 7)
		}
	}
}

func TestJoinOfMissingAndDoubled(t *testing.T) {
	for _, n := range []int{1, 112, 113, 300, 336, 500} {
		b := cut(t, 1, 4, some(n, n))
		for at := 0; at < len(b); at += 128 {
			sector := b[at : at+128]
			broken(t, "a sector is missing", join(b[:at], b[at+128:]), 1, 4)
			if at < len(b)-128 {
				broken(t, "a sector is missing, with another foot behind", join(b[:at], b[at+128:], b[len(b)-128:]), 1, 4)
				broken(t, "a sector is doubled", join(b[:at], sector, b[at:]), 1, 4)
			}
			broken(t, "noughts for a sector", join(b[:at], make([]byte, 128), b[at+128:]), 1, 4)
			broken(t, "noughts between", join(b[:at], make([]byte, 128), b[at:]), 1, 4)
			for to := at + 128; to < len(b); to += 128 {
				x := bytes.Clone(b)
				copy(x[at:], b[to:to+128])
				copy(x[to:], sector)
				broken(t, "two sectors out of order", x, 1, 4)
			}
		}
	}
	broken(t, "nil", nil, 1, 4)
	broken(t, "empty", []byte{}, 1, 4)
	broken(t, "noughts", make([]byte, 1000), 1, 4)
	broken(t, "a foot alone", row(list(1, 4, nil)), 1, 4)
}

func TestJoinOfTurned(t *testing.T) {
	payload := some(113, 8)
	b := cut(t, 1, 4, payload)
	for i := range b {
		for bit := range 8 {
			x := bytes.Clone(b)
			x[i] ^= 1 << bit
			broken(t, "a bit turned", x, 1, 4)
			// Sealed again it is a part's sector, maybe, but not the transaction's.
			copy(x[i/128*128:], sealed(x[i/128*128:i/128*128+128]))
			if !bytes.Equal(x, b) {
				broken(t, "a bit turned, sealed", x, 1, 4)
			}
		}
	}
}

func TestJoinOfFeetThatDontFit(t *testing.T) {
	for _, n := range []int{1, 112, 113, 300} {
		payload := some(n, n)
		good := list(6, 5, payload)
		foot := good[len(good)-1]
		sum := crc32.ChecksumIEEE(payload)
		with := func(change func(p *api.Part)) []byte {
			p := foot
			change(&p)
			return row(append(slices.Clone(good[:len(good)-1]), p))
		}
		whole(t, "the test's own", with(func(p *api.Part) {}), 6, 5, payload)
		for what, b := range map[string][]byte{
			"no foot":             with(func(p *api.Part) { p.Foot = false }),
			"one less":            with(func(p *api.Part) { p.Index-- }),
			"one more":            with(func(p *api.Part) { p.Index++ }),
			"none":                with(func(p *api.Part) { p.Index = 0 }),
			"65535":               with(func(p *api.Part) { p.Index = 65535 }),
			"another epoch":       with(func(p *api.Part) { p.Epoch++ }),
			"another number":      with(func(p *api.Part) { p.Number++ }),
			"the elder epoch":     with(func(p *api.Part) { p.Epoch-- }),
			"the elder number":    with(func(p *api.Part) { p.Number-- }),
			"no sum":              with(func(p *api.Part) { p.Data = nil }),
			"noughts":             with(func(p *api.Part) { p.Data = make([]byte, 4) }),
			"a short sum":         with(func(p *api.Part) { p.Data = p.Data[:3] }),
			"a long sum":          with(func(p *api.Part) { p.Data = append(bytes.Clone(p.Data), 0) }),
			"a sum twice":         with(func(p *api.Part) { p.Data = join(p.Data, p.Data) }),
			"a sum of 8 octets":   with(func(p *api.Part) { p.Data = binary.LittleEndian.AppendUint64(nil, uint64(sum)) }),
			"a sum the other way": with(func(p *api.Part) { p.Data = binary.BigEndian.AppendUint32(nil, sum) }),
			"a sum and one":       with(func(p *api.Part) { p.Data = binary.LittleEndian.AppendUint32(nil, sum+1) }),
			"a sum turned over":   with(func(p *api.Part) { p.Data = binary.LittleEndian.AppendUint32(nil, ^sum) }),
			"the payload":         with(func(p *api.Part) { p.Data = payload[:min(n, 112)] }),
		} {
			broken(t, "a foot with "+what, b, 6, 5)
			broken(t, "a foot with "+what+", and the right one behind", join(b, laid(foot)), 6, 5)
		}
	}
}

// TestJoinOfUnevenParts: parts that hold a payload otherwise than by 112 octets each, with a foot that fits.
func TestJoinOfUnevenParts(t *testing.T) {
	for _, sizes := range [][]int{
		{0}, {0, 0}, {111, 1}, {111, 112}, {111, 111}, {1, 1}, {1, 112}, {112, 0}, {0, 112}, {112, 112, 0}, {112, 0, 112},
		{112, 111, 1}, {112, 111, 112}, {112, 1, 112}, {56, 56}, {112, 0, 0}, {0, 0, 112}, {112, 50, 50},
	} {
		var parts []api.Part
		var payload []byte
		for i, n := range sizes {
			data := some(n, n+i)
			parts = append(parts, api.Part{Epoch: 1, Number: 2, Index: i, Data: data})
			payload = append(payload, data...)
		}
		foot := api.Part{Foot: true, Epoch: 1, Number: 2, Index: len(parts), Data: binary.LittleEndian.AppendUint32(nil, crc32.ChecksumIEEE(payload))}
		broken(t, "uneven parts", row(append(parts, foot)), 1, 2)
		// And with as many as the payload would have.
		foot.Index = len(list(1, 2, payload)) - 1
		broken(t, "uneven parts, another Index", row(append(parts, foot)), 1, 2)
	}
	// An empty foot amid the parts takes nothing of the payload away, but isn't one of them.
	good := list(1, 2, some(300, 1))
	for at := range good {
		foot := api.Part{Foot: true, Epoch: 1, Number: 2, Index: at}
		broken(t, "a foot amid the parts", row(slices.Insert(slices.Clone(good), at, foot)), 1, 2)
	}
	// A foot whose Data is a piece of the payload, where a part ought to be.
	for at := range len(good) - 1 {
		x := slices.Clone(good)
		x[at].Foot = true
		broken(t, "a foot for a part", row(x), 1, 2)
	}
}

func TestJoinOfTooLong(t *testing.T) {
	for _, n := range []int{65001, 65002, 65071, 65072, 65073, 65184, 70000, 128 * 1000} {
		payload := some(n, n)
		b := row(list(1, 2, payload))
		broken(t, "too long a payload", b, 1, 2)
		// The first ones of its parts, with a foot of theirs, are a transaction.
		first := payload[:112*580]
		x := join(b[:128*580], laid(list(1, 2, first)[580]))
		whole(t, "the first parts of one too long", x, 1, 2, first)
	}
	payload := some(65000, 1)
	whole(t, "the longest", row(list(1, 2, payload)), 1, 2, payload)
	// Many parts without a foot, and as many as an Index can count.
	broken(t, "no foot", bytes.Repeat(laid(api.Part{Epoch: 1, Number: 2, Data: some(112, 1)}), 2000), 1, 2)
	var b []byte
	for i := range 65536 {
		b = append(b, laid(api.Part{Epoch: 1, Number: 2, Index: i})...)
	}
	broken(t, "empty parts", b, 1, 2)
}

// TestJoinByChance holds Join against the chapter's words at rows of sectors, most of them of one transaction.
func TestJoinByChance(t *testing.T) {
	u := dice(66)
	found := 0
	for range 6000 {
		epoch, number := 1+u.below(3), u.below(3)
		parts := list(epoch, number, some(1+u.below(450), u.below(1000)))
		parts = append(parts, list(epoch, number+u.below(2), some(1+u.below(200), u.below(1000)))...)
		for range u.below(3) {
			at := u.below(len(parts))
			switch p := &parts[at]; u.below(9) {
			case 0:
				p.Foot = !p.Foot
			case 1:
				p.Epoch = 1 + u.below(3)
			case 2:
				p.Number = u.below(3)
			case 3:
				p.Index = u.below(5)
			case 4:
				p.Data = some(u.below(113), u.below(1000))
			case 5:
				p.Data = p.Data[:u.below(len(p.Data)+1)]
			case 6:
				other := u.below(len(parts))
				parts[at], parts[other] = parts[other], parts[at]
			case 7:
				parts = slices.Insert(parts, at, parts[u.below(len(parts))])
			default:
				parts = slices.Delete(parts, at, at+1)
			}
			if len(parts) == 0 {
				break
			}
		}
		b := row(parts)
		if len(b) > 0 && u.below(8) == 0 {
			b[u.below(len(b))] ^= 1 << u.below(8)
		}
		if u.below(4) == 0 {
			b = b[:u.below(len(b)+1)]
		}
		want, sectors := joined(b, epoch, number)
		got, n := record.Join(b, epoch, number)
		if !bytes.Equal(got, want) || n != sectors {
			t.Errorf("P6.3: Join: %d octets, %d sectors; not %d, %d", len(got), n, len(want), sectors)
		}
		if n > 0 {
			found++
		}
	}
	if found < 500 || found > 5500 {
		t.Errorf("the test's own rows: %d of 6000 have a transaction", found)
	}
}

func TestPartsMemory(t *testing.T) {
	spare := append(some(20, 1), bytes.Repeat([]byte{7}, 200)...)
	was := bytes.Clone(spare)
	p := api.Part{Epoch: 1, Number: 2, Index: 3, Data: spare[:20]}
	b, again := put(t, p), put(t, p)
	if !bytes.Equal(spare, was) {
		t.Error("P6.4: Put changed what was handed in")
	}
	clear(spare)
	if !bytes.Equal(b, laid(api.Part{Epoch: 1, Number: 2, Index: 3, Data: was[:20]})) {
		t.Error("P6.4: Put kept what was handed in")
	}
	clear(b)
	if !bytes.Equal(again, laid(api.Part{Epoch: 1, Number: 2, Index: 3, Data: was[:20]})) {
		t.Error("P6.4: two answers of Put share memory")
	}
	if !bytes.Equal(put(t, plain), laid(plain)) {
		t.Error("P6.4: an answer of Put changed a later one")
	}

	b = append(put(t, plain), bytes.Repeat([]byte{9}, 128)...)
	was = bytes.Clone(b)
	one, _ := record.Get(b[:128])
	two, _ := record.Get(b[:128])
	if !bytes.Equal(b, was) {
		t.Error("P6.4: Get changed what was handed in")
	}
	clear(b)
	if !alike(one, plain) {
		t.Error("P6.4: Get kept what was handed in")
	}
	clear(one.Data[:cap(one.Data)])
	if !alike(two, plain) {
		t.Error("P6.4: two answers of Get share memory")
	}
	b = bytes.Clone(was)
	one, _ = record.Get(b[:128])
	clear(one.Data[:cap(one.Data)])
	if !bytes.Equal(b, was) {
		t.Error("P6.4: an answer of Get shares memory with what was handed in")
	}
}

func TestTransactionsMemory(t *testing.T) {
	for _, n := range []int{1, 112, 113, 300} {
		spare := append(some(n, 1), bytes.Repeat([]byte{7}, 500)...)
		was := bytes.Clone(spare)
		want := row(list(3, 4, was[:n]))
		b, again := cut(t, 3, 4, spare[:n]), cut(t, 3, 4, spare[:n])
		if !bytes.Equal(spare, was) {
			t.Error("P6.4: Cut changed what was handed in")
		}
		clear(spare)
		if !bytes.Equal(b, want) {
			t.Error("P6.4: Cut kept what was handed in")
		}
		clear(b[:cap(b)])
		if !bytes.Equal(again, want) {
			t.Error("P6.4: two answers of Cut share memory")
		}

		b = append(bytes.Clone(want), bytes.Repeat([]byte{9}, 500)...)
		all := bytes.Clone(b)
		one, _ := record.Join(b[:len(want)], 3, 4)
		two, _ := record.Join(b[:len(want)], 3, 4)
		if !bytes.Equal(b, all) {
			t.Error("P6.4: Join changed what was handed in")
		}
		clear(one[:cap(one)])
		if !bytes.Equal(b, all) {
			t.Error("P6.4: an answer of Join shares memory with what was handed in")
		}
		clear(b)
		if !bytes.Equal(two, was[:n]) {
			t.Error("P6.4: Join kept what was handed in, or two answers share memory")
		}
	}
}

// TestNothingIsKept: a call that fails, or another one, changes no later answer.
func TestNothingIsKept(t *testing.T) {
	payload := some(200, 2)
	want := row(list(1, 1, payload))
	for range 3 {
		record.Put(api.Part{})
		record.Cut(0, 0, payload)
		record.Cut(9, 9, some(5000, 1))
		record.Join(want[:200], 1, 1)
		record.Get(want[:5])
		if b := cut(t, 1, 1, payload); !bytes.Equal(b, want) {
			t.Error("P6.4: Cut answers something else behind other calls")
		}
		whole(t, "behind other calls", want, 1, 1, payload)
	}
}

// TestEveryCallEnds: at numbers from everywhere, and octets of every length.
func TestEveryCallEnds(t *testing.T) {
	numbers := []int{math.MinInt, math.MinInt + 1, -1 << 32, -65536, -1, 0, 1, 2, 112, 113, 65000, 65001, 65535, 65536, 1 << 31, 1<<31 + 1, 1 << 32, 1 << 62, math.MaxInt - 1, math.MaxInt}
	good := row(list(1, 1, some(300, 1)))
	octets := [][]byte{nil, {}, {0}, {'P'}, make([]byte, 127), make([]byte, 128), make([]byte, 129), good, good[:len(good)-1], some(1000, 4), bytes.Repeat([]byte{255}, 70000)}
	for _, a := range numbers {
		record.Sectors(a)
		for _, b := range numbers {
			for _, x := range octets {
				record.Cut(a, b, x)
				if got, n := record.Join(x, a, b); n != 0 && !(a == 1 && b == 1 && bytes.Equal(x, good)) {
					t.Errorf("P6.3: Join of %d octets with %d, %d: %d octets, %d sectors", len(x), a, b, len(got), n)
				}
				p := api.Part{Epoch: a, Number: b, Index: a, Data: x}
				if got, err := record.Put(p); (err == api.OK) != right(p) || err != api.OK && (err != api.ErrArg || len(got) != 0) {
					t.Errorf("P6.1: Put with %d, %d and %d octets: %d octets, %v", a, b, len(x), len(got), err)
				}
			}
		}
	}
	for n := range 300 {
		record.Get(some(n, n))
		record.Join(some(n, n), 1, 1)
	}
}
