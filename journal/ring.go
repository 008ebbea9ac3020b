package journal

import (
	"slices"

	"mothball/api"
	"mothball/disk"
)

// ring is a row of a disk's sectors, behind whose last one comes the first; those that are used end ahead of the place.
type ring struct {
	disk        *disk.Disk
	from, size  int
	place, used int
}

// free is how many sectors aren't used.
func (r *ring) free() int { return r.size - r.used }

// octets are those of all sectors, from the place on and around.
func (r *ring) octets() ([]byte, api.Errno) {
	b, err := r.disk.Read(r.from, r.size)
	if err != api.OK {
		return nil, err
	}
	at := r.place * api.Sector
	return slices.Concat(b[at:], b[:at]), api.OK
}

// lay writes sectors from the place on: the last one when all others are safe, as it says that they are there.
func (r *ring) lay(b []byte) api.Errno {
	last := len(b) - api.Sector
	if err := r.flush(r.place, b[:last]); err != api.OK {
		return err
	}
	return r.flush(r.behind(last/api.Sector), b[last:])
}

// flush writes sectors, and makes them safe.
func (r *ring) flush(at int, b []byte) api.Errno {
	if err := r.write(at, b); err != api.OK {
		return err
	}
	return r.disk.Flush()
}

// write writes sectors, around the ring: a second call only where they go round, as each call counts.
func (r *ring) write(at int, b []byte) api.Errno {
	end := min((r.size-at)*api.Sector, len(b))
	err := r.disk.Write(r.from+at, b[:end])
	if err != api.OK || end == len(b) {
		return err
	}
	return r.disk.Write(r.from, b[end:])
}

// take makes so many sectors used, from the place on.
func (r *ring) take(sectors int) {
	r.place = r.behind(sectors)
	r.used += sectors
}

// behind is the place that comes so many sectors, at most all, behind the place.
func (r *ring) behind(sectors int) int {
	at := r.place + sectors
	if at >= r.size {
		at -= r.size
	}
	return at
}
