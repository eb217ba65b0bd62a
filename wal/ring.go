package wal

import (
	"math"

	"dockmaster/api"
	"dockmaster/num"
)

// piece is what a sector of the ring has: an entry, or a part of one.
type piece struct {
	number uint64
	life   uint64
	last   bool
	text   string
}

// bytes has the number and 1, so that a sector of noughts is none of a number.
func (p piece) bytes() []byte {
	b := num.Put(nil, p.number+1)
	b = num.Put(b, p.life)
	last := uint64(0)
	if p.last {
		last = 1
	}
	b = num.Put(b, last)
	return num.Text(b, p.text)
}

// readPiece is the piece of a number whose bytes these are, if they are one's.
func readPiece(b []byte, n uint64) (piece, bool) {
	r := num.Read(b)
	stands := r.Num(math.MaxUint64)
	p := piece{number: n}
	p.life = r.Num(MaxLife)
	p.last = r.Num(1) == 1
	p.text = r.Text(Chunk)
	if r.Err() != api.OK || stands != n+1 || !p.last && len(p.text) < Chunk {
		return piece{}, false
	}
	return p, true
}

// chunk is the i-th piece's share of an entry's bytes.
func chunk(b []byte, i int) string {
	return string(b[i*Chunk : min((i+1)*Chunk, len(b))])
}

// place is the disk's sector in which a number stands.
func (l *Log) place(n uint64) int {
	return l.from + Masters + int(n%uint64(l.room))
}

// piece is the one that stands under a number, if it can be read.
func (l *Log) piece(n uint64) (piece, bool) {
	b, err := l.disk.Read(l.place(n))
	if err != api.OK {
		return piece{}, false
	}
	return readPiece(b, n)
}

// entry is an entry as it is read, and the number behind it.
type entry struct {
	bytes []byte
	life  uint64
	next  uint64
}

// entry is the one that begins at a number, if it is whole, and not of a life less than that. It ends: once round, the numbers aren't theirs any more.
func (l *Log) entry(n, least uint64) (entry, bool) {
	e := entry{next: n}
	for {
		p, ok := l.piece(e.next)
		if !ok || p.life < least || e.next > n && p.life != e.life {
			return entry{}, false
		}
		e.bytes = append(e.bytes, p.text...)
		e.life = p.life
		e.next++
		if p.last {
			return e, true
		}
	}
}

// end goes through the entries that a master leads to: the number behind the last one, and its life (0, if there is none).
func (l *Log) end(m master) (uint64, uint64) {
	next, life := m.first, uint64(0)
	least := m.least
	for {
		e, whole := l.entry(next, least)
		if !whole {
			return next, life
		}
		next, life, least = e.next, e.life, e.life
	}
}

// lifeAt is the life of the entry that begins at a number, or, if there is none, the log's.
func (l *Log) lifeAt(n uint64) uint64 {
	if n < l.next {
		if p, ok := l.piece(n); ok {
			return p.life
		}
	}
	return l.head.life
}
