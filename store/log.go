package store

import (
	"dockmaster/api"
	"dockmaster/rec"
)

// lay lets a record be the log's last one; its number.
func (s *Store) lay(r rec.Rec) (uint64, api.Errno) {
	b, err := rec.Encode(r)
	if err != api.OK {
		return 0, err
	}
	return s.log.Append(b)
}

// layForced lays a record that stays.
func (s *Store) layForced(r rec.Rec) api.Errno {
	if _, err := s.lay(r); err != api.OK {
		return err
	}
	return s.log.Force()
}

// record is the one that has a number.
func (s *Store) record(n uint64) (rec.Rec, api.Errno) {
	for _, b := range s.log.All(n) {
		return rec.Decode(b)
	}
	// The log goes through what can be read, and doesn't tell why something can't.
	if s.disk.Down() {
		return rec.Rec{}, api.ErrDown
	}
	return rec.Rec{}, api.ErrBad
}

// standing is a transaction's updates that aren't undone, the last one first; without their pages, as there may be many.
func (s *Store) standing(o rec.Open) ([]rec.Rec, api.Errno) {
	var updates []rec.Rec
	for at := o.Last; at > 0; {
		r, err := s.record(at - 1)
		if err != api.OK {
			return nil, err
		}
		// What leads back to itself would have no end.
		if !isOf(r, o.Tid) || r.Prev >= at {
			return nil, api.ErrBad
		}
		if r.Kind == rec.Update {
			r.Pages = nil
			updates = append(updates, r)
		}
		at = r.Prev
	}
	return updates, api.OK
}

// isOf tells whether a record is one that can lead to a transaction's updates.
func isOf(r rec.Rec, t api.Tid) bool {
	return r.Tid == t && (r.Kind == rec.Update || r.Kind == rec.Undo)
}
