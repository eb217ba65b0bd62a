package lock

import (
	"slices"
	"sort"

	"dockmaster/api"
)

const none Mode = 0 // how a key is locked by one who hasn't it

// line is who has a key, the elder ones ahead, and who waits for it, the first one ahead.
type line struct {
	has   []Want
	waits []Want
}

// against tells whether two can't have the same key, each in its mode.
func (w Want) against(o Want) bool {
	return w.Tid != o.Tid && (w.Mode == Write || o.Mode == Write)
}

// find is where a transaction stands among those who have the key, or would, and whether it does.
func (q line) find(t api.Tid) (int, bool) {
	at := sort.Search(len(q.has), func(i int) bool { return !q.has[i].Tid.Elder(t) })
	return at, at < len(q.has) && q.has[at].Tid == t
}

// mode is how a transaction has the key.
func (q line) mode(t api.Tid) Mode {
	at, has := q.find(t)
	if !has {
		return none
	}
	return q.has[at].Mode
}

func (q line) awaits(t api.Tid) bool {
	return slices.ContainsFunc(q.waits, func(w Want) bool { return w.Tid == t })
}

// front is how many at the front of those who wait have the key, too.
func (q line) front() int {
	n := 0
	for n < len(q.waits) && q.mode(q.waits[n].Tid) != none {
		n++
	}
	return n
}

// judge is what becomes of a wish at a place among those who wait. Nobody may wait for an elder one, neither who asks nor who would stand behind it.
func (q line) judge(w Want, at int) Answer {
	for _, o := range q.waits[at:] {
		if w.against(o) && !o.Tid.Elder(w.Tid) {
			return Dies
		}
	}
	answer := Granted
	for _, o := range slices.Concat(q.has, q.waits[:at]) {
		if !w.against(o) {
			continue
		}
		if !w.Tid.Elder(o.Tid) {
			return Dies
		}
		answer = Waits
	}
	return answer
}

// give lets one have the key, in a mode that takes the place of the one in which it had it.
func (q *line) give(w Want) {
	at, has := q.find(w.Tid)
	if has {
		q.has[at] = w
		return
	}
	q.has = slices.Insert(q.has, at, w)
}

func (q *line) leave(t api.Tid) {
	its := func(w Want) bool { return w.Tid == t }
	q.has = slices.DeleteFunc(q.has, its)
	q.waits = slices.DeleteFunc(q.waits, its)
}

// serve gives the key to those at the front who can have it now, one behind the other: it tells them.
func (q *line) serve() []Want {
	n := 0
	for n < len(q.waits) && !slices.ContainsFunc(q.has, q.waits[n].against) {
		q.give(q.waits[n])
		n++
	}
	given := slices.Clone(q.waits[:n])
	q.waits = slices.Delete(q.waits, 0, n)
	return given
}
