package store

import (
	"fmt"
	"maps"
	"math/rand"
	"slices"
	"strings"

	"dockmaster/age"
	"dockmaster/api"
	"dockmaster/key"
	"dockmaster/rec"
)

// tale is what a store is expected to have: told plainly, without a log or pages. It isn't turned; what turns it tells a new one.
type tale struct {
	now     key.Map
	opens   map[api.Tid]tx
	dones   map[api.Tid][]int
	decided map[api.Tid][]int // all that ever were, with the nodes that they had then
}

// tx is an open transaction: how each key was ahead of its updates, the first one first.
type tx struct {
	turns []turn
	ready bool
	reads []string
}

type turn struct {
	k, was string
	had    bool
}

func newTale(now key.Map) tale {
	return tale{now: now, opens: map[api.Tid]tx{}, dones: map[api.Tid][]int{}, decided: map[api.Tid][]int{}}
}

func (m tale) clone() tale {
	return tale{m.now, maps.Clone(m.opens), maps.Clone(m.dones), maps.Clone(m.decided)}
}

// turned is behind an update.
func (m tale) turned(t api.Tid, k string, now key.Map) tale {
	m = m.clone()
	o := m.opens[t]
	was, had := m.now.Get(k)
	o.turns = append(slices.Clone(o.turns), turn{k, was, had})
	m.opens[t], m.now = o, now
	return m
}

func (m tale) aborted(t api.Tid) tale {
	m = m.clone()
	for _, x := range slices.Backward(m.opens[t].turns) {
		if x.had {
			m.now = m.now.With(x.k, x.was)
		} else {
			m.now = m.now.Without(x.k)
		}
	}
	delete(m.opens, t)
	return m
}

func (m tale) committed(t api.Tid) tale {
	m = m.clone()
	delete(m.opens, t)
	return m
}

func (m tale) prepared(t api.Tid, reads []string) tale {
	m = m.clone()
	o := m.opens[t]
	if !o.ready {
		o.ready, o.reads = true, slices.Compact(slices.Sorted(slices.Values(reads)))
	}
	m.opens[t] = o
	return m
}

func (m tale) with(t api.Tid, nodes []int) tale {
	m = m.clone()
	nodes = slices.Compact(slices.Sorted(slices.Values(nodes)))
	m.dones[t], m.decided[t] = nodes, nodes
	return m
}

func (m tale) known(t api.Tid, node int) tale {
	m = m.clone()
	m.dones[t] = slices.DeleteFunc(slices.Clone(m.dones[t]), func(n int) bool { return n == node })
	if len(m.dones[t]) == 0 {
		delete(m.dones, t)
	}
	return m
}

// withoutEnds lets those be decided still, for no node, for whose End there was no room.
func (m tale) withoutEnds(dones []rec.Done) tale {
	m = m.clone()
	for _, d := range dones {
		if len(d.Nodes) == 0 {
			m.dones[d.Tid] = nil
		}
	}
	return m
}

// lost is behind a loss of power.
func (m tale) lost() tale {
	for t, o := range m.clone().opens {
		if !o.ready {
			m = m.aborted(t)
		}
	}
	return m
}

// text is the keys, and what is open; what is decided is looked at apart.
func (m tale) text() string {
	s := texts(m.now, func(p api.Pair) string { return p.Key + "=" + p.Val })
	for _, t := range age.Keys(m.opens) {
		o := m.opens[t]
		keys := []string{}
		for _, x := range o.turns {
			keys = append(keys, x.k)
		}
		s += txText(t, len(o.turns), o.ready, o.reads, keys)
	}
	return s
}

func txText(t api.Tid, count int, ready bool, reads, touched []string) string {
	touched = slices.Compact(slices.Sorted(slices.Values(touched)))
	return fmt.Sprint("\n", tidText(t), " ", count, " ", ready, " read ", strings.Join(reads, "+"), " touched ", strings.Join(touched, "+"))
}

// taleText is a store's text as a tale has it.
func (b *bench) taleText() string {
	s := b.mapText()
	for _, o := range b.s.Opens() {
		keys, err := b.s.Touched(o.Tid)
		if err != api.OK && !b.s.Dead() {
			b.t.Error("Touched", err)
		}
		s += txText(o.Tid, o.Count, o.Ready, o.Reads, keys)
	}
	return s
}

// decidedFits tells whether what is decided may be so behind a loss: of each what it has to tell still, and no more than it ever had.
func (m tale) decidedFits(dones []rec.Done) bool {
	has := map[api.Tid]bool{}
	for _, d := range dones {
		most, ever := m.decided[d.Tid]
		has[d.Tid] = true
		if !ever || !within(d.Nodes, most) || !within(m.dones[d.Tid], d.Nodes) {
			return false
		}
	}
	for t := range m.dones {
		if !has[t] {
			return false
		}
	}
	return true
}

func within(few, many []int) bool {
	return !slices.ContainsFunc(few, func(n int) bool { return !slices.Contains(many, n) })
}

// call is one of a store, and what it leaves.
type call struct {
	text  string
	do    func(s *Store) api.Errno
	leave func(m tale) tale
}

func putCall(t api.Tid, k, v string) call {
	return call{"Put " + tidText(t) + " " + k,
		func(s *Store) api.Errno { return s.Put(t, k, v) },
		func(m tale) tale { return m.turned(t, k, m.now.With(k, v)) }}
}

func dropCall(t api.Tid, k string) call {
	return call{"Drop " + tidText(t) + " " + k,
		func(s *Store) api.Errno { return s.Drop(t, k) },
		func(m tale) tale { return m.turned(t, k, m.now.Without(k)) }}
}

func prepareCall(t api.Tid, reads ...string) call {
	return call{"Prepare " + tidText(t),
		func(s *Store) api.Errno { return s.Prepare(t, reads) },
		func(m tale) tale { return m.prepared(t, reads) }}
}

func commitCall(t api.Tid) call {
	return call{"Commit " + tidText(t),
		func(s *Store) api.Errno { return s.Commit(t) },
		func(m tale) tale { return m.committed(t) }}
}

func abortCall(t api.Tid) call {
	return call{"Abort " + tidText(t),
		func(s *Store) api.Errno { return s.Abort(t) },
		func(m tale) tale { return m.aborted(t) }}
}

func decideCall(t api.Tid, nodes ...int) call {
	return call{"Decide " + tidText(t),
		func(s *Store) api.Errno { return s.Decide(t, nodes) },
		func(m tale) tale { return m.with(t, nodes) }}
}

func knowCall(t api.Tid, node int) call {
	return call{fmt.Sprint("Know ", tidText(t), " ", node),
		func(s *Store) api.Errno { return s.Know(t, node) },
		func(m tale) tale { return m.known(t, node) }}
}

func checkCall() call {
	return call{"Check", (*Store).Check, func(m tale) tale { return m }}
}

// told is a store, and its tale: as it is, and as it will be, if the call at which the power went was done nevertheless.
type told struct {
	*bench
	is    tale
	maybe tale
	calls []string
}

// does makes a call, that must be OK, unless the power goes in it.
func (w *told) does(c call) api.Errno {
	w.t.Helper()
	w.calls = append(w.calls, c.text)
	err := c.do(w.s)
	switch err {
	case api.OK:
		w.is = c.leave(w.is)
		w.maybe = w.is
	case api.ErrDown:
		w.maybe = c.leave(w.is)
	}
	return err
}

// comes opens the store behind a loss, and holds it against its tale; once more it is the same.
func (w *told) comes() {
	w.t.Helper()
	before, after := w.is.lost(), w.maybe.lost()
	w.open()
	text := w.taleText()
	switch {
	case text == before.text() && before.decidedFits(w.s.Dones()):
		w.is = before
	case text == after.text() && after.decidedFits(w.s.Dones()):
		w.is = after
	default:
		w.t.Fatalf("%v\nit has %s\n%s\nwant %s\n%s\nor %s\n%s", w.calls, text, w.donesText(), before.text(), fmt.Sprint(before.dones), after.text(), fmt.Sprint(after.dones))
	}
	dones := w.donesText()
	w.has(w.mapText())
	w.lose()
	if w.taleText() != text || w.donesText() != dones {
		w.t.Fatal(w.calls, "opened anew it has", w.taleText(), w.donesText(), "want", text, dones)
	}
	w.is = w.is.clone()
	clear(w.is.dones)
	for _, d := range w.s.Dones() {
		w.is.dones[d.Tid] = d.Nodes
	}
	w.maybe = w.is
	w.calls = append(w.calls, "|")
}

// loss lets the power go, and come again; of what isn't safe something stays, by luck: the first ones, all but one, all, none, any; perhaps a sector is torn.
func (w *told) loss(r *rand.Rand) {
	waits := w.d.Waits()
	keep := make([]bool, waits)
	way, at := r.Intn(5), r.Intn(waits+1)
	for i := range keep {
		keep[i] = way == 0 && i < at || way == 1 && i != at || way == 2 || way == 3 && r.Intn(2) == 0
	}
	w.d.On(keep, r.Intn(waits+2)-1)
}
