package store

import (
	"slices"

	"dockmaster/api"
	"dockmaster/key"
	"dockmaster/rec"
)

// prepare lets a transaction be Ready, with keys that rise.
func (s *Store) prepare(t api.Tid, reads []string) api.Errno {
	switch {
	case len(reads) > rec.MaxReads:
		return api.ErrMany
	case !isTid(t) || slices.ContainsFunc(reads, isNoKey):
		return api.ErrArg
	}
	o, open := s.opens[t]
	if o.Ready {
		return api.OK
	}
	if err := s.mayOpen(t); err != api.OK {
		return err
	}
	// Of one that is open it is set aside.
	if !open && !s.room(2*PerTx) {
		return api.ErrFull
	}
	if err := s.layForced(rec.Rec{Kind: rec.Prepare, Tid: t, Reads: reads}); err != api.OK {
		return err
	}
	o.Tid, o.Ready, o.Reads = t, true, reads
	s.opens[t] = o
	return api.OK
}

func (s *Store) commit(t api.Tid) api.Errno {
	o, open := s.opens[t]
	switch {
	case !open:
		return api.ErrNone
	case !o.Ready:
		return api.ErrTurn
	}
	if err := s.layForced(rec.Rec{Kind: rec.Commit, Tid: t}); err != api.OK {
		return err
	}
	delete(s.opens, t)
	return api.OK
}

func (s *Store) abort(t api.Tid) api.Errno {
	o, open := s.opens[t]
	if !open {
		return api.ErrNone
	}
	updates, err := s.standing(o)
	if err != api.OK {
		return err
	}
	// Where a page can't be read, none of them may have been undone.
	if err := s.canUndo(updates); err != api.OK {
		return err
	}
	for _, u := range updates {
		if err := s.undo(u); err != api.OK {
			return err
		}
	}
	if err := s.layAbort(o); err != api.OK {
		return err
	}
	delete(s.opens, t)
	return api.OK
}

// layAbort forces the Abort of a prepared one alone: any other one is undone by a loss of power, too.
func (s *Store) layAbort(o rec.Open) api.Errno {
	r := rec.Rec{Kind: rec.Abort, Tid: o.Tid}
	if o.Ready {
		return s.layForced(r)
	}
	_, err := s.lay(r)
	return err
}

// isTid tells whether a transaction is within the bounds.
func isTid(t api.Tid) bool { return t.Num <= api.MaxTid && isNode(t.Node) }

func isNode(n int) bool { return n >= 0 && n < api.MaxNodes }

func isNoNode(n int) bool { return !isNode(n) }

func isNoKey(k string) bool { return key.Right(k) != api.OK }
