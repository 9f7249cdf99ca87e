package wal

import (
	"math"
	"slices"
	"strings"

	"switchyard/api"
	"switchyard/frame"
)

// write is what goes to a sector.
type write struct {
	at   int
	data string
}

// plan is what a call writes, and how far the log has come then. A unit exists
// only by its first sector, so what is erased is durable ahead of what is put
// there, and that ahead of the first sectors.
type plan struct {
	per    int
	place  place
	erased []write
	rest   []write // the headers, and the units without their first sectors
	firsts []write
}

// plan returns an empty plan. The log stays as it is until it is carried out.
func (l *Log) plan() *plan {
	p := &plan{per: l.per, place: l.place}
	p.place.used = slices.Clone(l.place.used)
	return p
}

// room tells whether a segment may be started where so many have to be free.
func (p *plan) room(free int) bool {
	return p.place.free() >= free && p.place.top < math.MaxUint32
}

// fits tells whether a unit with this body fits behind the last one.
func (p *plan) fits(body string) bool {
	return p.place.next+frame.Sectors(len(body)) <= p.place.end
}

// start starts the first free segment, and returns its number. There has to be
// room.
func (p *plan) start(base, prev uint32) int {
	number := slices.Index(p.place.used, false)
	begin := number * p.per
	for i := range p.per {
		p.erased = append(p.erased, write{begin + i, strings.Repeat("\x00", api.Sector)})
	}
	at := &p.place
	at.used[number] = true
	at.top++
	at.base, at.last = base, at.top
	at.next, at.end = begin+1, begin+p.per
	// It can't fail: no base and no prev is greater than a serial of before.
	head, _ := frame.PutHead(frame.Head{Serial: at.top, Base: base, Prev: prev, Seq: at.seq})
	p.rest = append(p.rest, write{begin, head})
	return number
}

// add puts a unit behind the last one. It has to fit.
func (p *plan) add(kind int, body string) {
	at := &p.place
	// It can't fail: a body that is too long was refused.
	unit, _ := frame.Put(frame.Unit{Serial: at.last, Seq: at.seq, Kind: kind, Body: body})
	p.firsts = append(p.firsts, write{at.next, unit[:api.Sector]})
	for at.next++; len(unit) > api.Sector; at.next++ {
		unit = unit[api.Sector:]
		p.rest = append(p.rest, write{at.next, unit[:api.Sector]})
	}
	at.seq++
}

// carryOut writes what is planned. Behind an error of the device nobody knows
// what it holds, so the log is closed then, and stays as it was.
func (l *Log) carryOut(p *plan) api.Errno {
	for _, writes := range [][]write{p.erased, p.rest, p.firsts} {
		if bad := l.put(writes); bad != api.OK {
			l.closed = true
			return bad
		}
	}
	l.place = p.place
	return api.OK
}

// put makes writes durable, if there are any.
func (l *Log) put(writes []write) api.Errno {
	if len(writes) == 0 {
		return api.OK
	}
	for _, w := range writes {
		if bad := l.device.Write(w.at, w.data); bad != api.OK {
			return bad
		}
	}
	return l.device.Flush()
}
