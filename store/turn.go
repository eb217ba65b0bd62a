package store

import (
	"dockmaster/api"
	"dockmaster/rec"
	"dockmaster/space"
	"dockmaster/tree"
)

// update lets a transaction turn a key, by what is done to a view; it is open then.
func (s *Store) update(t api.Tid, k string, turn func(*space.View) api.Errno) api.Errno {
	if err := s.mayUpdate(t); err != api.OK {
		return err
	}
	if err := s.checkAtHalf(); err != api.OK {
		return err
	}
	v, err := s.viewToUpdate()
	if err != api.OK {
		return err
	}
	old, was, err := tree.Get(v, k)
	if err != api.OK {
		return err
	}
	if err := turn(v); err != api.OK {
		return err
	}
	o := s.opens[t]
	n, err := s.settle(rec.Rec{Kind: rec.Update, Tid: t, Key: k, Was: was, Old: old, Prev: o.Last, Pages: v.Changes()})
	if err != api.OK {
		return err
	}
	s.opens[t] = updated(o, t, n)
	return api.OK
}

// mayUpdate tells why a transaction can't turn a key.
func (s *Store) mayUpdate(t api.Tid) api.Errno {
	switch {
	case !isTid(t):
		return api.ErrArg
	case s.opens[t].Ready:
		return api.ErrTurn
	}
	return s.mayOpen(t)
}

// updated is how a transaction is open behind an update of its own, which has a number: layer 13 tells the same of the log.
func updated(o rec.Open, t api.Tid, n uint64) rec.Open {
	o.Tid, o.Last, o.Count = t, n+1, o.Count+1
	if o.First == 0 {
		o.First = o.Last
	}
	return o
}

// settle lays a record in the log, and then the pages that it turned in the pool; its number.
func (s *Store) settle(r rec.Rec) (uint64, api.Errno) {
	n, err := s.lay(r)
	if err != api.OK {
		return 0, err
	}
	for _, c := range r.Pages {
		if err := s.pool.Save(c.N, c.P, n); err != api.OK {
			return 0, err
		}
	}
	return n, api.OK
}

// undo lets a key be as it was ahead of an update.
func (s *Store) undo(u rec.Rec) api.Errno {
	v, err := space.New(s.pool)
	if err != api.OK {
		return err
	}
	if err := setBack(v, u); err != api.OK {
		return err
	}
	_, err = s.settle(rec.Rec{Kind: rec.Undo, Tid: u.Tid, Prev: u.Prev, Pages: v.Changes()})
	return err
}

// canUndo tells why updates, the last one first, can't all be undone: it is done aside.
func (s *Store) canUndo(updates []rec.Rec) api.Errno {
	v, err := space.New(s.pool)
	if err != api.OK {
		return err
	}
	for _, u := range updates {
		if err := setBack(v, u); err != api.OK {
			return err
		}
	}
	return api.OK
}

func setBack(v *space.View, u rec.Rec) api.Errno {
	if u.Was {
		return tree.Put(v, u.Key, u.Old)
	}
	return drop(v, u.Key)
}

// drop is layer 10's: whether the key was there is nothing here.
func drop(v *space.View, k string) api.Errno {
	_, err := tree.Drop(v, k)
	return err
}
