package part

import (
	"slices"

	"dockmaster/api"
	"dockmaster/lock"
	"dockmaster/msg"
)

// know lets a transaction be known, with nothing done.
func (p *Part) know(t api.Tid) *work {
	w := &work{}
	p.known[t] = w
	p.asks.Set(ask, t, p.time+Pause)
	return w
}

// turn does things whose locks are given, the first one first. Where that ends a transaction, what waited for its locks comes behind all those that had theirs already.
func (p *Part) turn(free []msg.Msg) api.Errno {
	for len(free) > 0 {
		more, err := p.turnOne(free[0])
		if err != api.OK {
			return err
		}
		free = append(free[1:], more...)
	}
	return api.OK
}

// turnOne does a thing; the things that may be done by that.
func (p *Part) turnOne(m msg.Msg) ([]msg.Msg, api.Errno) {
	val, has, err := p.inStore(m)
	switch err {
	case api.OK:
		a := did(m, api.OK)
		a.Val, a.Has = val, has
		w := p.known[m.Tid]
		w.done, w.answer = m.N, a
		p.send(a)
		return nil, api.OK
	case api.ErrDown:
		return nil, err
	}
	return p.fail(m, err)
}

// inStore lets the store do a thing.
func (p *Part) inStore(m msg.Msg) (string, bool, api.Errno) {
	switch m.Op {
	case msg.Put:
		return "", false, p.store.Put(m.Tid, m.Key, m.Val)
	case msg.Drop:
		return "", false, p.store.Drop(m.Tid, m.Key)
	}
	return p.store.Get(m.Key)
}

// fail answers a Do with an error, and undoes its transaction; the things that may be done by that.
func (p *Part) fail(m msg.Msg, code api.Errno) ([]msg.Msg, api.Errno) {
	p.send(did(m, code))
	return p.undo(m.Tid)
}

// undo lets a transaction never have been; the things that may be done by that.
func (p *Part) undo(t api.Tid) ([]msg.Msg, api.Errno) {
	if err := p.store.Abort(t); !isEnd(err) {
		return nil, err
	}
	return p.end(t), api.OK
}

// end lets a transaction be over; the things that waited for its locks, in the order in which these are given.
func (p *Part) end(t api.Tid) []msg.Msg {
	delete(p.known, t)
	p.asks.Drop(ask, t)
	p.over[t] = struct{}{}
	var free []msg.Msg
	for _, g := range p.locks.Free(t) {
		if w := p.known[g.Tid]; w != nil && w.waits() && w.wait.Key == g.Key {
			free = append(free, w.wait)
			w.wait = msg.Msg{}
		}
	}
	return free
}

// lockAll locks keys of a transaction that comes from the store. It had them ahead of all that is asked for now, so nothing is kept back.
func (p *Part) lockAll(t api.Tid, keys []string, m lock.Mode) {
	for _, k := range keys {
		p.locks.Ask(t, k, m)
	}
}

// reads is the keys that a transaction has to read alone.
func (p *Part) reads(t api.Tid) []string {
	var keys []string
	for _, k := range p.locks.Keys(t) {
		if slices.Contains(p.locks.Has(k), lock.Want{Tid: t, Mode: lock.Read}) {
			keys = append(keys, k)
		}
	}
	return keys
}

func modeOf(op int) lock.Mode {
	if op == msg.Get {
		return lock.Read
	}
	return lock.Write
}
