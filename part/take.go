package part

import (
	"dockmaster/api"
	"dockmaster/lock"
	"dockmaster/msg"
)

func (p *Part) hello(m msg.Msg) api.Errno {
	p.send(msg.Msg{Kind: msg.Welcome, Tid: m.Tid, Life: p.store.Life()})
	return api.OK
}

func (p *Part) do(m msg.Msg) api.Errno {
	w := p.known[m.Tid]
	switch {
	case w != nil && w.ready:
		return api.OK
	case p.isGone(m):
		p.send(did(m, api.ErrGone))
		return api.OK
	case w == nil:
		w = p.know(m.Tid)
	}
	switch {
	case w.waits():
	case m.N > 0 && m.N == w.done:
		p.send(w.answer)
	case m.N == w.done+1:
		return p.begin(w, m)
	}
	return api.OK
}

// isGone tells whether a Do is of a transaction of which what was done isn't known any more: of another life of the node, of one that is over, of one that began at its first thing, and this is a later one.
func (p *Part) isGone(m msg.Msg) bool {
	_, over := p.over[m.Tid]
	return over || m.Life != p.store.Life() || p.known[m.Tid] == nil && m.N != 1
}

// begin does the next thing, if its lock is to be had at once.
func (p *Part) begin(w *work, m msg.Msg) api.Errno {
	switch p.locks.Ask(m.Tid, m.Key, modeOf(m.Op)) {
	case lock.Granted:
		return p.turn([]msg.Msg{m})
	case lock.Waits:
		w.wait = m
		return api.OK
	}
	free, err := p.fail(m, api.ErrDied)
	if err != api.OK {
		return err
	}
	return p.turn(free)
}

func (p *Part) prepare(m msg.Msg) api.Errno {
	w := p.known[m.Tid]
	switch {
	case w == nil:
		p.send(vote(m, api.ErrGone))
		return api.OK
	case w.ready:
		p.send(vote(m, api.OK))
		return api.OK
	case m.Life != p.store.Life() || w.waits() || m.N != w.done:
		return p.refuse(m, api.ErrGone)
	}
	switch err := p.store.Prepare(m.Tid, p.reads(m.Tid)); err {
	case api.OK:
		w.ready = true
		p.send(vote(m, api.OK))
		return api.OK
	case api.ErrDown:
		return err
	default:
		return p.refuse(m, err)
	}
}

// refuse votes against a transaction, which is undone.
func (p *Part) refuse(m msg.Msg, code api.Errno) api.Errno {
	p.send(vote(m, code))
	return p.giveUp(m.Tid)
}

func (p *Part) commit(m msg.Msg) api.Errno {
	if w := p.known[m.Tid]; w != nil {
		if !w.ready {
			return api.OK
		}
		if err := p.store.Commit(m.Tid); !isEnd(err) {
			return err
		}
		if err := p.turn(p.end(m.Tid)); err != api.OK {
			return err
		}
	}
	p.send(msg.Msg{Kind: msg.Ack, Tid: m.Tid})
	return api.OK
}

func (p *Part) abort(m msg.Msg) api.Errno {
	if p.known[m.Tid] == nil {
		p.over[m.Tid] = struct{}{}
		return api.OK
	}
	return p.giveUp(m.Tid)
}

// giveUp undoes a transaction, and does what waited for its locks.
func (p *Part) giveUp(t api.Tid) api.Errno {
	free, err := p.undo(t)
	if err != api.OK {
		return err
	}
	return p.turn(free)
}

func did(m msg.Msg, code api.Errno) msg.Msg {
	return msg.Msg{Kind: msg.Did, Tid: m.Tid, N: m.N, Code: code}
}

func vote(m msg.Msg, code api.Errno) msg.Msg {
	return msg.Msg{Kind: msg.Vote, Tid: m.Tid, Code: code}
}

// isEnd tells whether a transaction is at its end in the store, by the answer to its Commit or Abort: one that has turned nothing may never have been open there.
func isEnd(err api.Errno) bool { return err == api.OK || err == api.ErrNone }
