package back

import (
	"cmp"
	"maps"
	"slices"
	"sort"

	"dockmaster/api"
	"dockmaster/rec"
)

// state is how it stands behind some records. Its lists are still theirs: the plan's are made anew, of what is left then.
type state struct {
	opens map[api.Tid]rec.Open
	dones map[api.Tid]rec.Done
	pages map[int]Image
}

// begin is how it stands by a Check.
func begin(check rec.Rec) state {
	s := state{opens: map[api.Tid]rec.Open{}, dones: map[api.Tid]rec.Done{}, pages: map[int]Image{}}
	for _, o := range check.Opens {
		s.opens[o.Tid] = o
	}
	for _, d := range check.Dones {
		s.dones[d.Tid] = d
	}
	return s
}

// take goes on by a record.
func (s state) take(x Item) {
	t := x.Rec.Tid
	switch x.Rec.Kind {
	case rec.Update, rec.Undo, rec.Prepare:
		s.opens[t] = turned(s.opens[t], x)
	case rec.Commit, rec.Abort:
		delete(s.opens, t)
	case rec.Decide:
		s.dones[t] = rec.Done{Tid: t, Nodes: x.Rec.Nodes}
	case rec.End:
		delete(s.dones, t)
	}
	for _, c := range x.Rec.Pages {
		s.pages[c.N] = Image{N: c.N, P: c.P, LSN: x.LSN}
	}
}

// turned is how a transaction is open behind a record of its own: it comes in at its zero value, if it wasn't open.
func turned(o rec.Open, x Item) rec.Open {
	o.Tid = x.Rec.Tid
	its := x.LSN + 1
	switch x.Rec.Kind {
	case rec.Update:
		o.Last, o.Count = its, o.Count+1
		if o.First == 0 {
			o.First = its
		}
	case rec.Undo:
		o.Last, o.Count = its, max(o.Count, 1)-1
		o.Ready, o.Reads = false, nil
	case rec.Prepare:
		o.Ready, o.Reads = true, x.Rec.Reads
	}
	return o
}

func (s state) plan() Plan {
	return Plan{
		Pages: inOrder(s.pages, cmp.Less[int], Image.clone),
		Opens: inOrder(s.opens, api.Tid.Elder, rec.Open.Clone),
		Dones: inOrder(s.dones, api.Tid.Elder, cloneDone),
	}
}

func (i Image) clone() Image {
	i.P = i.P.Clone()
	return i
}

func cloneDone(d rec.Done) rec.Done {
	d.Nodes = slices.Clone(d.Nodes)
	return d
}

// inOrder is what stands in a map, by its keys, each apart from what was handed in.
func inOrder[K comparable, V any](m map[K]V, ahead func(K, K) bool, clone func(V) V) []V {
	keys := slices.Collect(maps.Keys(m))
	sort.Slice(keys, func(i, j int) bool { return ahead(keys[i], keys[j]) })
	var out []V
	for _, k := range keys {
		out = append(out, clone(m[k]))
	}
	return out
}
