package store

import (
	"dockmaster/api"
	"dockmaster/back"
	"dockmaster/disk"
	"dockmaster/pool"
	"dockmaster/rec"
	"dockmaster/space"
	"dockmaster/wal"
)

const (
	metaPage = 0 // the number of the page that is there first
	noEntry  = 0 // the number with which that is Saved: nothing in the log tells of it
)

// lieOn is a store on a disk, of which nothing is known yet.
func lieOn(d *disk.Disk, c Conf) (*Store, api.Errno) {
	// Asked ahead, as the log's opening begins a new life: a disk that hasn't the pages stays as it is. One without power has the log's error.
	if !d.Down() && d.Len() < c.Log+c.Pages {
		return nil, api.ErrArg
	}
	log, err := wal.Open(d, 0, c.Log)
	if err != api.OK {
		return nil, err
	}
	p, err := pool.New(d, log, c.Log, c.Pages, c.Room)
	if err != api.OK {
		return nil, err
	}
	s := &Store{disk: d, log: log, pool: p}
	s.opens, s.dones = map[api.Tid]rec.Open{}, map[api.Tid]rec.Done{}
	return s, api.OK
}

// comeBack lets the store be as its log says.
func (s *Store) comeBack() api.Errno {
	all, err := s.items()
	if err != api.OK {
		return err
	}
	plan := back.Of(all)
	if plan.Fresh {
		return s.begin()
	}
	if err := s.redo(plan); err != api.OK {
		return err
	}
	for _, t := range plan.Lost() {
		if err := s.abort(t); err != api.OK {
			return err
		}
	}
	// Without this Check the log is longer, and tells the same.
	if err := s.check(); err != api.ErrFull && err != api.ErrMany {
		return err
	}
	return api.OK
}

// items is all records of the log, with their numbers.
func (s *Store) items() ([]back.Item, api.Errno) {
	var all []back.Item
	for n, b := range s.log.All(s.log.Start()) {
		r, err := rec.Decode(b)
		if err != api.OK {
			return nil, err
		}
		all = append(all, back.Item{LSN: n, Rec: r})
	}
	return all, api.OK
}

// begin lets the store have nothing. The page comes ahead of the Check: once there is one, the page isn't laid anew.
func (s *Store) begin() api.Errno {
	if err := s.pool.Save(metaPage, space.First(), noEntry); err != api.OK {
		return err
	}
	return s.check()
}

// redo lets the pages, what is open, and what is decided be as a plan says.
func (s *Store) redo(plan back.Plan) api.Errno {
	for _, i := range plan.Pages {
		if err := s.pool.Save(i.N, i.P, i.LSN); err != api.OK {
			return err
		}
	}
	for _, o := range plan.Opens {
		s.opens[o.Tid] = o
	}
	for _, d := range plan.Dones {
		s.dones[d.Tid] = d
	}
	return api.OK
}
