package tree

import (
	"dockmaster/api"
	"dockmaster/node"
	"dockmaster/page"
)

// addRoot has a page for a new root.
func addRoot(s Pages, p page.Page) api.Errno {
	n, err := s.Get()
	if err != api.OK {
		return err
	}
	if err := s.Save(n, p); err != api.OK {
		return err
	}
	return s.SetRoot(n)
}

// grow lets the last page of a way be p, and splits what has too much, upwards. A page with too much is never Saved: it isn't right.
func grow(s Pages, path []step, p page.Page) api.Errno {
	for i := len(path) - 1; i > 0; i-- {
		if !node.Over(p) {
			return s.Save(path[i].n, p)
		}
		k, n, err := split(s, path[i].n, p)
		if err != api.OK {
			return err
		}
		above := path[i-1]
		p = node.Hang(above.p, above.at, k, n)
	}
	return growRoot(s, path[0].n, p)
}

// growRoot lets the root be p, or the first of two beneath a new one.
func growRoot(s Pages, n int, p page.Page) api.Errno {
	if !node.Over(p) {
		return s.Save(n, p)
	}
	k, second, err := split(s, n, p)
	if err != api.OK {
		return err
	}
	return addRoot(s, page.Page{Kind: page.Inner, Keys: []string{k}, Kids: []int{n, second}})
}

// split lets a page be two, in its place and in one that is had: the key between, and the new one's number.
func split(s Pages, n int, p page.Page) (string, int, api.Errno) {
	first, k, second := node.Split(p)
	had, err := s.Get()
	if err != api.OK {
		return "", 0, err
	}
	if err := s.Save(n, first); err != api.OK {
		return "", 0, err
	}
	if err := s.Save(had, second); err != api.OK {
		return "", 0, err
	}
	return k, had, api.OK
}

// shrink lets the last page of a way be p, and fills what has too little, upwards.
func shrink(s Pages, path []step, p page.Page) api.Errno {
	for i := len(path) - 1; i > 0; i-- {
		if !node.Under(p) {
			return s.Save(path[i].n, p)
		}
		above, err := fill(s, path[i-1], p)
		if err != api.OK {
			return err
		}
		p = above
	}
	return shrinkRoot(s, path[0].n, p)
}

// shrinkRoot lets the root be p, or the one Kid that p has.
func shrinkRoot(s Pages, n int, p page.Page) api.Errno {
	if p.Kind == page.Leaf || len(p.Kids) > 1 {
		return s.Save(n, p)
	}
	if err := s.Free(n); err != api.OK {
		return err
	}
	return s.SetRoot(p.Kids[0])
}

// fill lets p, which is to be the Kid of the way beneath a page, and the one beside it be two with enough, or one: the page above, as it is to be then.
func fill(s Pages, above step, p page.Page) (page.Page, api.Errno) {
	at := max(above.at-1, 0)
	if at >= len(above.p.Keys) {
		return page.Page{}, api.ErrBad
	}
	first, second := above.p.Kids[at], above.p.Kids[at+1]
	a, b, err := beside(s, above, p)
	if err != api.OK {
		return page.Page{}, err
	}
	a, k, b, two := node.Fill(a, above.p.Keys[at], b)
	if err := s.Save(first, a); err != api.OK {
		return page.Page{}, err
	}
	if two {
		return node.Turn(above.p, at, k), s.Save(second, b)
	}
	return node.Unhang(above.p, at), s.Free(second)
}

// beside is p and its neighbour, in order: the one to its left, of the first Kid the one to its right.
func beside(s Pages, above step, p page.Page) (page.Page, page.Page, api.Errno) {
	n := above.p.Kids[1]
	if above.at > 0 {
		n = above.p.Kids[above.at-1]
	}
	x, err := s.Load(n)
	if err != api.OK {
		return page.Page{}, page.Page{}, err
	}
	if n == noPage || !fits(x) || x.Kind != p.Kind {
		return page.Page{}, page.Page{}, api.ErrBad
	}
	if above.at > 0 {
		return x, p, api.OK
	}
	return p, x, api.OK
}
