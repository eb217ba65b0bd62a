package tree

import (
	"iter"

	"dockmaster/api"
	"dockmaster/key"
	"dockmaster/page"
)

// All goes through all keys, in order.
func All(s Pages) iter.Seq2[string, string] {
	return func(yield func(string, string) bool) {
		w := walk{pages: s, left: page.MaxPage, yield: yield}
		w.visit(s.Root(), 1)
	}
}

// Map is all keys, and what stands under them.
func Map(s Pages) key.Map {
	m := key.Map{}
	for k, v := range All(s) {
		m = append(m, api.Pair{Key: k, Val: v})
	}
	return m
}

// walk goes through pages that may be anything; how many it may still go through lets it end where they go round.
type walk struct {
	pages Pages
	left  int
	yield func(string, string) bool
}

// visit goes through a page, so deep, and what is beneath it; whether to go on.
func (w *walk) visit(n, deep int) bool {
	if n == noPage || deep > MostDeep {
		return true
	}
	if w.left == 0 {
		return false
	}
	w.left--
	p, err := w.pages.Load(n)
	if err != api.OK || !fits(p) {
		return true
	}
	if p.Kind == page.Leaf {
		return w.leaf(p)
	}
	for _, kid := range p.Kids {
		if !w.visit(kid, deep+1) {
			return false
		}
	}
	return true
}

func (w *walk) leaf(p page.Page) bool {
	for i, k := range p.Keys {
		if !w.yield(k, p.Vals[i]) {
			return false
		}
	}
	return true
}
