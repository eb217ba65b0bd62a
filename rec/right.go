package rec

import (
	"cmp"

	"dockmaster/api"
	"dockmaster/key"
	"dockmaster/page"
	"dockmaster/space"
)

const (
	maxNumber = 1 << 62 // of an entry, and 1
	maxCount  = 1 << 30 // updates that aren't undone
)

// Right tells whether a record has what its kind has, within the limits, and nothing else.
func (r Rec) Right() bool {
	return r.Kind >= Update && r.Kind <= Check &&
		r.rightTid() && r.rightOld() && r.rightTurn() && r.rightLists()
}

func (r Rec) rightTid() bool {
	if r.Kind == Check {
		return r.Tid == api.Tid{}
	}
	return isTid(r.Tid)
}

// rightOld looks at the key that was turned, and how it was.
func (r Rec) rightOld() bool {
	if r.Kind != Update {
		return r.Key == "" && !r.Was && r.Old == ""
	}
	return isKey(r.Key) && key.Value(r.Old) == api.OK && (r.Was || r.Old == "")
}

// rightTurn looks at what a record has that turns pages.
func (r Rec) rightTurn() bool {
	if r.Kind != Update && r.Kind != Undo {
		return r.Prev == 0 && len(r.Pages) == 0
	}
	return r.Prev <= maxNumber && fits(r.Pages, MaxPages, rightChange, lowerChange)
}

// rightLists looks at the lists that one kind alone has.
func (r Rec) rightLists() bool {
	reads := len(r.Reads) == 0 || r.Kind == Prepare && rightReads(r.Reads)
	nodes := len(r.Nodes) == 0 || r.Kind == Decide && rightNodes(r.Nodes)
	opens := len(r.Opens) == 0 || r.Kind == Check && fits(r.Opens, MaxOpen, Open.right, Open.ahead)
	dones := len(r.Dones) == 0 || r.Kind == Check && fits(r.Dones, MaxOpen, Done.right, Done.ahead)
	return reads && nodes && opens && dones
}

func (o Open) right() bool {
	return isTid(o.Tid) && o.Last <= maxNumber && o.First <= maxNumber &&
		o.Count >= 0 && o.Count <= maxCount && rightReads(o.Reads)
}

func (o Open) ahead(p Open) bool { return o.Tid.Elder(p.Tid) }

func (d Done) right() bool { return isTid(d.Tid) && rightNodes(d.Nodes) }

func (d Done) ahead(e Done) bool { return d.Tid.Elder(e.Tid) }

func rightChange(c space.Change) bool {
	return c.N >= 0 && c.N < page.MaxPage && c.P.Right()
}

func lowerChange(c, d space.Change) bool { return c.N < d.N }

func rightReads(keys []string) bool { return fits(keys, MaxReads, isKey, cmp.Less[string]) }

func rightNodes(nodes []int) bool { return fits(nodes, api.MaxNodes, isNode, cmp.Less[int]) }

func isTid(t api.Tid) bool { return t.Num <= api.MaxTid && isNode(t.Node) }

func isNode(n int) bool { return n >= 0 && n < api.MaxNodes }

func isKey(k string) bool { return key.Right(k) == api.OK }

// fits tells whether a list has no more than so many, each of them right, and ahead of the one behind it: so none is there twice.
func fits[T any](list []T, most int, right func(T) bool, ahead func(T, T) bool) bool {
	if len(list) > most {
		return false
	}
	for i, x := range list {
		if !right(x) || i > 0 && !ahead(list[i-1], x) {
			return false
		}
	}
	return true
}
