package node

import (
	"slices"

	"dockmaster/page"
)

// Split is a page as two, and the key between: all keys from it on stand in the second one.
func Split(p page.Page) (page.Page, string, page.Page) {
	switch {
	case isLeaf(p) && len(p.Keys) > 1:
		return splitLeaf(p)
	case isInner(p) && len(p.Kids) > 1:
		return splitInner(p)
	}
	return p.Clone(), "", page.Page{}
}

func splitLeaf(p page.Page) (page.Page, string, page.Page) {
	a, b := p.Clone(), p.Clone()
	half := len(p.Keys) / 2
	a.Keys, b.Keys = a.Keys[:half], b.Keys[half:]
	a.Vals, b.Vals = a.Vals[:half], b.Vals[half:]
	return a, p.Keys[half], b
}

func splitInner(p page.Page) (page.Page, string, page.Page) {
	a, b := p.Clone(), p.Clone()
	half := len(p.Kids) / 2
	a.Kids, b.Kids = a.Kids[:half], b.Kids[half:]
	a.Keys, b.Keys = a.Keys[:half-1], b.Keys[half:]
	return a, p.Keys[half-1], b
}

// Join is two pages beside each other, with the key between, as one; it may have more than it may.
func Join(a page.Page, k string, b page.Page) page.Page {
	out := a.Clone()
	if a.Kind == page.Inner {
		out.Keys = append(out.Keys, k)
	}
	out.Keys = append(out.Keys, b.Keys...)
	out.Vals = append(out.Vals, b.Vals...)
	out.Kids = append(out.Kids, b.Kids...)
	return out
}

// Fill is two pages beside each other, of which one has too little, as one, or as two that have enough, and the key between.
func Fill(a page.Page, k string, b page.Page) (page.Page, string, page.Page, bool) {
	one := Join(a, k, b)
	if !Over(one) {
		return one, "", page.Page{}, false
	}
	first, between, second := Split(one)
	return first, between, second, true
}

// Hang is an inner page in which a page beneath it has become two, with the key between.
func Hang(p page.Page, at int, k string, kid int) page.Page {
	out := p.Clone()
	if !isInner(p) || at < 0 || at > len(p.Keys) {
		return out
	}
	out.Keys = slices.Insert(out.Keys, at, k)
	out.Kids = slices.Insert(out.Kids, at+1, kid)
	return out
}

// Turn is an inner page with another key between two pages beneath it.
func Turn(p page.Page, at int, k string) page.Page {
	out := p.Clone()
	if hasKey(p, at) {
		out.Keys[at] = k
	}
	return out
}

// Unhang is an inner page in which two pages beneath it have become the first of them.
func Unhang(p page.Page, at int) page.Page {
	out := p.Clone()
	if !hasKey(p, at) {
		return out
	}
	out.Keys = slices.Delete(out.Keys, at, at+1)
	out.Kids = slices.Delete(out.Kids, at+1, at+2)
	return out
}

// hasKey tells whether an inner page has a key at a place.
func hasKey(p page.Page, at int) bool {
	return isInner(p) && at >= 0 && at < len(p.Keys)
}
