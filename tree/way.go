package tree

import (
	"dockmaster/api"
	"dockmaster/key"
	"dockmaster/node"
	"dockmaster/page"
)

// step is a page on the way to a key, and which Kid of it the way goes on by.
type step struct {
	n  int
	p  page.Page
	at int
}

// way is the pages from the root down to the leaf where a key stands, or would; none, if there is no root.
func way(s Pages, k string) ([]step, api.Errno) {
	n := s.Root()
	if n == noPage {
		return nil, api.OK
	}
	path := []step{}
	for n != noPage && len(path) < MostDeep {
		p, err := s.Load(n)
		if err != api.OK {
			return nil, err
		}
		if !fits(p) {
			return nil, api.ErrBad
		}
		at, _ := node.At(p, k)
		path = append(path, step{n: n, p: p, at: at})
		if p.Kind == page.Leaf {
			return path, api.OK
		}
		n = p.Kids[at]
	}
	return nil, api.ErrBad
}

// rightWay is the way to a key, if that is a right one.
func rightWay(s Pages, k string) ([]step, api.Errno) {
	if err := key.Right(k); err != api.OK {
		return nil, err
	}
	return way(s, k)
}

// leafOf is the leaf that a way ends at.
func leafOf(path []step) page.Page {
	return path[len(path)-1].p
}

// fits tells whether a page is a leaf or an inner one. Lists that don't fit each other are no page's: a place that is told of one of them might not be there in the other.
func fits(p page.Page) bool {
	switch p.Kind {
	case page.Leaf:
		return len(p.Vals) == len(p.Keys)
	case page.Inner:
		return len(p.Kids) == len(p.Keys)+1
	}
	return false
}
