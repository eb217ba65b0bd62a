package coord

import (
	"dockmaster/api"
	"dockmaster/msg"
)

// Take takes a message that is for a node's coordinator: its error, if the power goes.
func (c *Coord) Take(m msg.Msg) api.Errno {
	if c.isNone() || !m.Right() || m.To != c.me || m.Tid.Node != c.me {
		return api.ErrArg
	}
	switch m.Kind {
	case msg.Welcome:
		c.welcome(m)
	case msg.Did:
		c.did(m)
	case msg.Vote:
		return c.vote(m)
	case msg.Ack:
		return c.ack(m)
	case msg.Ask:
		c.ask(m)
	default:
		return api.ErrArg
	}
	return api.OK
}

func (c *Coord) welcome(m msg.Msg) {
	w, s := c.askedOf(m)
	if w == nil || s.life != 0 || m.Life == 0 {
		return
	}
	s.life = m.Life
	w.seats[m.From] = s
	w.asked.Life = m.Life
	c.say(m.Tid, w)
}

func (c *Coord) did(m msg.Msg) {
	w, s := c.askedOf(m)
	if w == nil || s.life == 0 || m.N != s.done+1 {
		return
	}
	if m.Code != api.OK {
		c.giveUp(m.Tid, w, told(m.Code))
		return
	}
	s.done = m.N
	w.seats[m.From] = s
	w.asked = msg.Msg{}
	c.says.Drop(underWay, m.Tid)
	c.told = append(c.told, Told{Tid: m.Tid, Val: m.Val, Has: m.Has})
}

// askedOf is a transaction of which something is asked for of the node from which a message comes, and what is known of that; nil, if there is none.
func (c *Coord) askedOf(m msg.Msg) (*work, seat) {
	w := c.open[m.Tid]
	if w == nil || !w.asks() || w.asked.To != m.From {
		return nil, seat{}
	}
	return w, w.seats[m.From]
}

func (c *Coord) vote(m msg.Msg) api.Errno {
	w := c.open[m.Tid]
	if w == nil || !w.voted {
		return api.OK
	}
	s, has := w.seats[m.From]
	switch {
	case !has:
		return api.OK
	case m.Code != api.OK:
		c.giveUp(m.Tid, w, told(m.Code))
		return api.OK
	case w.isLast(m.From):
		return c.decide(m.Tid, w)
	}
	s.can = true
	w.seats[m.From] = s
	return api.OK
}

// decide lets a transaction be, as all its nodes can. Where the power goes in that, the last vote isn't noted: that call has changed nothing.
func (c *Coord) decide(t api.Tid, w *work) api.Errno {
	switch err := c.store.Decide(t, w.nodes()); err {
	case api.OK:
		c.end(t, api.OK)
		c.sayCommits(t)
	case api.ErrDown:
		return err
	default:
		c.giveUp(t, w, err)
	}
	return api.OK
}

// ack notes that a node knows what was decided. That nothing is decided (any more) is no fault: an Ack may come twice.
func (c *Coord) ack(m msg.Msg) api.Errno {
	if err := c.store.Know(m.Tid, m.From); err == api.ErrDown {
		return err
	}
	return api.OK
}

func (c *Coord) ask(m msg.Msg) {
	if c.open[m.Tid] != nil {
		return
	}
	kind := msg.Abort
	if _, is := c.done(m.Tid); is {
		kind = msg.Commit
	}
	c.send(msg.Msg{Kind: kind, To: m.From, Tid: m.Tid})
}

// told is what a client is told, where a node answers with a code: that the node doesn't know the transaction any more means to it that this was given up.
func told(code api.Errno) api.Errno {
	if code == api.ErrGone {
		return api.ErrAbort
	}
	return code
}
