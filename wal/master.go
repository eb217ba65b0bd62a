package wal

import (
	"math"

	"dockmaster/api"
	"dockmaster/num"
)

const (
	mark     = "dock"    // the text with which a master begins
	maxFirst = 1<<62 - 1 // the greatest number that a master may tell
)

// master is what a master sector says; the zero one is what is taken if none says anything.
type master struct {
	writing uint64 // how often a master was written
	life    uint64
	first   uint64 // the number of the first entry
	least   uint64 // the least life that the first entry may have
}

func (m master) bytes() []byte {
	b := num.Text(nil, mark)
	b = num.Put(b, m.writing)
	b = num.Put(b, m.life)
	b = num.Put(b, m.first)
	return num.Put(b, m.least)
}

// readMaster is what the bytes of one of the masters say, if they say anything.
func readMaster(b []byte, which int) (master, bool) {
	r := num.Read(b)
	text := r.Text(len(mark))
	m := master{}
	m.writing = r.Num(math.MaxUint64)
	m.life = r.Num(MaxLife)
	m.first = r.Num(maxFirst)
	m.least = r.Num(MaxLife)
	if r.Err() != api.OK || text != mark || m.writing == 0 || m.writing%Masters != uint64(which) {
		return master{}, false
	}
	return m, true
}

// latest is the greatest writing of a master that can be read.
func (l *Log) latest() (master, api.Errno) {
	latest := master{}
	for which := range Masters {
		b, err := l.disk.Read(l.from + which)
		if err == api.ErrTorn {
			continue
		}
		if err != api.OK {
			return master{}, err
		}
		if m, says := readMaster(b, which); says && m.writing > latest.writing {
			latest = m
		}
	}
	return latest, api.OK
}

// reborn is the master of a new life of the log.
func (l *Log) reborn(life uint64) master {
	m := l.head
	m.life = life
	if l.next == m.first {
		// A sector of an entry that was lost in part may stand there: it is of a life ahead.
		m.least = life
	}
	return m
}

// lead writes a master, which counts from its Sync on. A writing that fails isn't counted: the next one goes to the same sector, so that the one that counts is left as it is.
func (l *Log) lead(m master) api.Errno {
	m.writing++
	which := int(m.writing % Masters)
	if err := l.disk.Write(l.from+which, m.bytes()); err != api.OK {
		return err
	}
	if err := l.disk.Sync(); err != api.OK {
		return err
	}
	l.head, l.safe = m, l.next
	return api.OK
}
