package store

import (
	"cmp"
	"slices"

	"dockmaster/age"
	"dockmaster/api"
	"dockmaster/key"
	"dockmaster/page"
	"dockmaster/space"
	"dockmaster/tree"
)

// once is a list in order, each once, apart from it.
func once[T cmp.Ordered](list []T) []T {
	return slices.Compact(slices.Sorted(slices.Values(list)))
}

// inOrder is what stands under transactions, the elder ones ahead, each apart from it.
func inOrder[V any](m map[api.Tid]V, apart func(V) V) []V {
	var out []V
	for _, t := range age.Keys(m) {
		out = append(out, apart(m[t]))
	}
	return out
}

// loads is a view that notes whether the power went: what goes through a tree leaves out what can't be loaded, and doesn't tell.
type loads struct {
	*space.View
	down bool
}

func (l *loads) Load(n int) (page.Page, api.Errno) {
	x, err := l.View.Load(n)
	l.down = l.down || err == api.ErrDown
	return x, err
}

// mapOf is all keys of a view, if its pages are a tree's.
func mapOf(v *space.View) (key.Map, api.Errno) {
	l := &loads{View: v}
	var m key.Map
	_, _, err := tree.Check(l)
	if err == api.OK {
		m = tree.Map(l)
	}
	switch {
	case l.down:
		return nil, api.ErrDown
	case err == api.ErrArg:
		// A number beneath a page that is no page's: nobody has handed it in.
		return nil, api.ErrBad
	}
	return m, err
}
