package sess

import (
	"dockmaster/api"
	"dockmaster/key"
)

// session is what is known of one.
type session struct {
	number int
	req    int // of its last call
	busy   bool
	answer Answer // to its last call, if that isn't under way
	open   bool   // it has a transaction; any Tid may be one
	tid    api.Tid
}

// with is an answer to a session's last call.
func (s *session) with(a Answer) Answer {
	a.Sess, a.Req, a.Tid = s.number, s.req, s.tid
	return a
}

// say answers a session's call.
func (s *session) say(a Answer) Answer {
	s.busy, s.answer = false, s.with(a)
	return s.answer
}

// fault is why a call of a session that has a transaction, or none, can't be done.
func (c Call) fault(open bool) api.Errno {
	switch {
	case c.Kind < Begin || c.Kind > Abort:
		return api.ErrArg
	case open == (c.Kind == Begin):
		return api.ErrTurn
	case c.Kind != Get && c.Kind != Put && c.Kind != Drop:
		return api.OK
	}
	if err := key.Right(c.Key); err != api.OK || c.Kind != Put {
		return err
	}
	return key.Value(c.Val)
}
