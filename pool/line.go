package pool

import "dockmaster/page"

// frame is a page that is held.
type frame struct {
	number int
	page   page.Page
	lsn    uint64
	dirty  bool

	ahead  *frame // its neighbours in the line
	behind *frame
}

// line is frames, the one that was used the longest time ago first; linked, as to use one of very many mustn't take a look at all of them.
type line struct {
	first *frame
	last  *frame
}

// add lets a frame that isn't in the line be its last one.
func (l *line) add(f *frame) {
	f.ahead, f.behind = l.last, nil
	if l.last == nil {
		l.first = f
	} else {
		l.last.behind = f
	}
	l.last = f
}

// remove takes a frame out of the line that it is in.
func (l *line) remove(f *frame) {
	if f.ahead == nil {
		l.first = f.behind
	} else {
		f.ahead.behind = f.behind
	}
	if f.behind == nil {
		l.last = f.ahead
	} else {
		f.behind.ahead = f.ahead
	}
	f.ahead, f.behind = nil, nil
}
