package store

import (
	"slices"

	"dockmaster/api"
	"dockmaster/rec"
	"dockmaster/wal"
)

// decide notes a transaction, with nodes that rise.
func (s *Store) decide(t api.Tid, nodes []int) api.Errno {
	if !isTid(t) || slices.ContainsFunc(nodes, isNoNode) {
		return api.ErrArg
	}
	if _, decided := s.dones[t]; decided {
		return api.ErrTurn
	}
	if len(s.dones) >= rec.MaxOpen {
		return api.ErrMany
	}
	if err := s.checkAtHalf(); err != api.OK {
		return err
	}
	if !s.room(PerTx) {
		return api.ErrFull
	}
	if err := s.layForced(rec.Rec{Kind: rec.Decide, Tid: t, Nodes: nodes}); err != api.OK {
		return err
	}
	s.dones[t] = rec.Done{Tid: t, Nodes: nodes}
	return api.OK
}

// know lets a transaction have a node less. The End isn't forced: without it the nodes are asked once more.
func (s *Store) know(t api.Tid, node int) api.Errno {
	d, decided := s.dones[t]
	if !decided {
		return api.ErrNone
	}
	left := []int{}
	for _, n := range d.Nodes {
		if n != node {
			left = append(left, n)
		}
	}
	if len(left) > 0 || !s.room(PerTx) {
		s.dones[t] = rec.Done{Tid: t, Nodes: left}
		return api.OK
	}
	if _, err := s.lay(rec.Rec{Kind: rec.End, Tid: t}); err != api.OK {
		return err
	}
	delete(s.dones, t)
	return api.OK
}

// check comes behind the pages: what is ahead of it in the log isn't done again.
func (s *Store) check() api.Errno {
	b, err := rec.Encode(rec.Rec{Kind: rec.Check, Opens: s.Opens(), Dones: s.Dones()})
	if err != api.OK {
		return err
	}
	if !s.room(wal.Need(len(b))) {
		return api.ErrFull
	}
	if err := s.pool.Flush(); err != api.OK {
		return err
	}
	n, err := s.log.Append(b)
	if err != api.OK {
		return err
	}
	// To be cut the log is forced first.
	return s.log.Cut(s.needed(n))
}

// needed is where the log begins that is needed still behind a Check: at that, or at what may have to be undone.
func (s *Store) needed(check uint64) uint64 {
	from := check
	for _, o := range s.opens {
		if o.First > 0 {
			from = min(from, o.First-1)
		}
	}
	return from
}
