package store

import (
	"dockmaster/api"
	"dockmaster/rec"
	"dockmaster/space"
)

// room tells whether the log has so many sectors free beside what is set aside.
func (s *Store) room(n int) bool {
	aside := len(s.opens)*PerTx + s.updates()*PerUpdate
	return s.log.Free()-aside >= n
}

// viewToUpdate is a view, if there is room for one update more, and for what is set aside to undo it, in the log and among the pages.
func (s *Store) viewToUpdate() (*space.View, api.Errno) {
	if !s.room(2*PerUpdate + PerTx) {
		return nil, api.ErrFull
	}
	v, err := space.New(s.pool)
	if err != api.OK {
		return nil, err
	}
	if v.Left() < (s.updates()+2)*PerPages {
		return nil, api.ErrFull
	}
	return v, api.OK
}

// updates is how many of them may have to be undone.
func (s *Store) updates() int {
	count := 0
	for _, o := range s.opens {
		count += o.Count
	}
	return count
}

// checkAtHalf makes a Check, if the log has little room. What it answers is nothing to who asked for something else, but that the power went.
func (s *Store) checkAtHalf() api.Errno {
	if s.room(s.log.Room() / 2) {
		return api.OK
	}
	if err := s.check(); err == api.ErrDown {
		return err
	}
	return api.OK
}

// mayOpen tells why a transaction that isn't open can't be opened.
func (s *Store) mayOpen(t api.Tid) api.Errno {
	if _, open := s.opens[t]; !open && len(s.opens) >= rec.MaxOpen {
		return api.ErrMany
	}
	return api.OK
}
