package coord

import (
	"maps"
	"slices"

	"dockmaster/api"
	"dockmaster/msg"
)

// work is a transaction under way.
type work struct {
	seats map[int]seat // of the nodes that take part
	asked msg.Msg      // the Do that is asked for; without a Kind, if none is
	voted bool
}

// seat is what is known of a node that takes part.
type seat struct {
	life uint64 // 0, as long as it isn't known
	done int
	can  bool
}

func (w *work) asks() bool { return w.asked.Kind == msg.Do }

// nodes is those that take part, in order.
func (w *work) nodes() []int { return slices.Sorted(maps.Keys(w.seats)) }

// isLast tells whether all nodes beside one have said that they can.
func (w *work) isLast(node int) bool {
	for n, s := range w.seats {
		if n != node && !s.can {
			return false
		}
	}
	return true
}

// say says what a transaction under way waits for, and again when nothing came.
func (c *Coord) say(t api.Tid, w *work) {
	switch {
	case w.voted:
		for _, n := range w.nodes() {
			if s := w.seats[n]; !s.can {
				c.send(msg.Msg{Kind: msg.Prepare, To: n, Tid: t, Life: s.life, N: s.done})
			}
		}
	case w.asked.Life == 0:
		c.send(msg.Msg{Kind: msg.Hello, To: w.asked.To, Tid: t})
	default:
		c.send(w.asked)
	}
	c.says.Set(underWay, t, c.time+Pause)
}

// sayCommits says that a transaction is decided to those that have to know it still, and again while there are any.
func (c *Coord) sayCommits(t api.Tid) {
	nodes, _ := c.done(t)
	for _, n := range nodes {
		c.send(msg.Msg{Kind: msg.Commit, To: n, Tid: t})
	}
	if len(nodes) > 0 {
		c.says.Set(decided, t, c.time+Pause)
	}
}

// done is the nodes that have to know still that a transaction is decided, and whether it is.
func (c *Coord) done(t api.Tid) ([]int, bool) {
	for _, d := range c.store.Dones() {
		if d.Tid == t {
			return d.Nodes, true
		}
	}
	return nil, false
}

// giveUp lets a transaction never have been.
func (c *Coord) giveUp(t api.Tid, w *work, code api.Errno) {
	for _, n := range w.nodes() {
		c.send(msg.Msg{Kind: msg.Abort, To: n, Tid: t})
	}
	c.end(t, code)
}

// end lets a transaction not be under way any more, and tells how that came.
func (c *Coord) end(t api.Tid, code api.Errno) {
	delete(c.open, t)
	c.says.Drop(underWay, t)
	c.told = append(c.told, Told{Tid: t, Code: code})
}

func (c *Coord) send(m msg.Msg) {
	m.From = c.me
	c.out = append(c.out, m)
}
