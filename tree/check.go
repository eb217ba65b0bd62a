package tree

import (
	"dockmaster/api"
	"dockmaster/node"
	"dockmaster/page"
)

// Check tells whether a tree is one: how many pages it has, how deep it is.
func Check(s Pages) (int, int, api.Errno) {
	root := s.Root()
	if root == noPage {
		return 0, 0, api.OK
	}
	l := look{from: s}
	if !l.visit(root, 1, span{}) {
		return 0, 0, api.ErrBad
	}
	if l.err != api.OK {
		return 0, 0, l.err
	}
	return l.pages, l.deep, api.OK
}

// span is the keys from low on that are less than high; a bound without a byte is none, as no right key is such.
type span struct {
	low  string
	high string
}

func (r span) has(k string) bool {
	return k >= r.low && (r.high == "" || k < r.high)
}

// look is what was seen of a tree so far.
type look struct {
	from  Pages
	pages int
	deep  int       // how deep the first leaf stands: so deep must all be
	err   api.Errno // the first one of Load: it is told only if nothing else is wrong
}

// visit tells whether a page, so deep, and what is beneath it, can be those of a tree, with the keys of a span. It ends where pages go round, too: what is met again has its keys outside its new span.
func (l *look) visit(n, deep int, in span) bool {
	if n == noPage || deep > MostDeep {
		return false
	}
	p, err := l.from.Load(n)
	if err != api.OK {
		l.fail(err)
		return true
	}
	l.pages++
	if !p.Right() || deep > 1 && node.Under(p) {
		return false
	}
	switch p.Kind {
	case page.Leaf:
		return l.leaf(p, deep, in)
	case page.Inner:
		return l.inner(p, deep, in)
	}
	return false
}

func (l *look) fail(err api.Errno) {
	if l.err == api.OK {
		l.err = err
	}
}

func (l *look) leaf(p page.Page, deep int, in span) bool {
	if l.deep == 0 {
		l.deep = deep
	}
	return deep == l.deep && hasAll(in, p.Keys)
}

// inner asks for its own keys, too: with one outside the span, or at its begin, a Kid would have no key that can be.
func (l *look) inner(p page.Page, deep int, in span) bool {
	if !hasAll(in, p.Keys) || p.Keys[0] == in.low {
		return false
	}
	for i, kid := range p.Kids {
		if !l.visit(kid, deep+1, beneath(p, i, in)) {
			return false
		}
	}
	return true
}

// beneath is the span of the i-th Kid of a page that has a span.
func beneath(p page.Page, i int, in span) span {
	if i > 0 {
		in.low = p.Keys[i-1]
	}
	if i < len(p.Keys) {
		in.high = p.Keys[i]
	}
	return in
}

func hasAll(in span, keys []string) bool {
	for _, k := range keys {
		if !in.has(k) {
			return false
		}
	}
	return true
}
