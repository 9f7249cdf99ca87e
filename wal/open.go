package wal

import (
	"iter"
	"maps"
	"slices"
	"strings"

	"switchyard/api"
	"switchyard/block"
	"switchyard/frame"
)

// segment is one that has a header: its number, its header, and the sectors
// behind it.
type segment struct {
	number int
	head   frame.Head
	units  string
}

// headers are the segments that have a header, by their serials.
type headers map[uint32]segment

// Open returns the log that is on a device, and its records. If there is none,
// it begins one whose only record is empty.
func Open(d *block.Device, per int) (*Log, []string, api.Errno) {
	if d == nil {
		return nil, nil, api.ErrNil
	}
	if per < 2 || d.Sectors()/per < fewest {
		return nil, nil, api.ErrArg
	}
	found, bad := look(d, per)
	if bad != api.OK {
		return nil, nil, bad
	}
	l := &Log{device: d, per: per, place: place{used: make([]bool, d.Sectors()/per)}}
	for serial := range found {
		l.place.top = max(l.place.top, serial)
	}
	if chain := found.newest(); len(chain) > 0 {
		return l, l.take(chain), api.OK
	}
	if bad := l.Checkpoint(""); bad != api.OK {
		return nil, nil, bad
	}
	return l, []string{""}, api.OK
}

// look reads all segments, and returns those that have a header.
func look(d *block.Device, per int) (headers, api.Errno) {
	found := headers{}
	for number := range d.Sectors() / per {
		sectors := make([]string, per)
		for i := range sectors {
			s, bad := d.Read(number*per + i)
			if bad != api.OK {
				return nil, bad
			}
			sectors[i] = s
		}
		head, ok := frame.GetHead(sectors[0])
		// Of two headers with one serial the second one counts for nothing.
		if _, twice := found[head.Serial]; ok && !twice {
			found[head.Serial] = segment{number, head, strings.Join(sectors[1:], "")}
		}
	}
	return found, api.OK
}

// newest returns the valid chain with the greatest serial, if there is one.
func (h headers) newest() []segment {
	for _, serial := range slices.Backward(slices.Sorted(maps.Keys(h))) {
		if chain := h.chain(serial); len(chain) > 0 && chain[0].begins() {
			return chain
		}
	}
	return nil
}

// chain returns the chain of the header with this serial, from its base on, or
// nothing if it is not whole.
func (h headers) chain(serial uint32) []segment {
	base := h[serial].head.Base
	var chain []segment
	for s := range h.back(serial) {
		if s.head.Base != base {
			return nil
		}
		chain = append(chain, s)
		if s.head.Serial == base {
			slices.Reverse(chain)
			return chain
		}
	}
	return nil
}

// back visits the segments from this serial on backwards, each one's Prev
// behind it, as far as there are any. It ends, for a Prev is always less.
func (h headers) back(serial uint32) iter.Seq[segment] {
	return func(yield func(segment) bool) {
		for s, ok := h[serial]; ok && yield(s); s, ok = h[s.head.Prev] {
		}
	}
}

// begins tells whether a log begins with this segment's first unit.
func (s segment) begins() bool {
	for range s.follow(whole, s.head.Seq) {
		return true
	}
	return false
}

// take makes the log that of a chain, and returns its records.
func (l *Log) take(chain []segment) []string {
	at := &l.place
	at.base, at.seq = chain[0].head.Base, chain[0].head.Seq
	var records []string
	kind := whole
	for _, s := range chain {
		if s.head.Seq != at.seq {
			break
		}
		at.used[s.number], at.last = true, s.head.Serial
		for body := range s.follow(kind, at.seq) {
			records = append(records, body)
			at.seq++
		}
		kind = more
	}
	return records
}

// follow visits the bodies of the units of a segment, from its beginning on, as
// far as their Seqs increase by 1. The first one has this kind and this Seq,
// and all the others are of more records.
func (s segment) follow(kind int, seq uint64) iter.Seq[string] {
	return func(yield func(string) bool) {
		units := s.units
		for {
			u, bad := frame.Get(units)
			if bad != api.OK || u.Kind != kind || u.Serial != s.head.Serial || u.Seq != seq {
				return
			}
			if !yield(u.Body) {
				return
			}
			units = units[frame.Sectors(len(u.Body))*api.Sector:]
			kind, seq = more, seq+1
		}
	}
}
