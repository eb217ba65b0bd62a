package rec

import (
	"fmt"
	"slices"
	"strings"
	"testing"

	"dockmaster/api"
	"dockmaster/page"
	"dockmaster/space"
)

// five is the transaction 5 of node 1.
func five() api.Tid { return api.Tid{Num: 5, Node: 1} }

// of is a record of a kind with what it must have, turned by functions.
func of(kind int, turns ...func(*Rec)) Rec {
	r := Rec{Kind: kind}
	if kind != Check {
		r.Tid = five()
	}
	if kind == Update {
		r.Key = "k"
	}
	for _, turn := range turns {
		turn(&r)
	}
	return r
}

// opens is a Check with one Open, turned by a function.
func opens(turn func(*Open)) Rec {
	o := Open{Tid: five()}
	turn(&o)
	return Rec{Kind: Check, Opens: []Open{o}}
}

// dones is a Check with one Done that has these Nodes.
func dones(nodes ...int) Rec {
	return Rec{Kind: Check, Dones: []Done{{Tid: five(), Nodes: nodes}}}
}

func prepares(reads ...string) Rec {
	return of(Prepare, func(r *Rec) { r.Reads = reads })
}

func decides(nodes ...int) Rec {
	return of(Decide, func(r *Rec) { r.Nodes = nodes })
}

// turns is an Undo with pages.
func turns(pages ...space.Change) Rec {
	return of(Undo, func(r *Rec) { r.Pages = pages })
}

// opened is a Check with Opens of these transactions, decided one with Dones of them.
func opened(tids ...api.Tid) Rec {
	r := Rec{Kind: Check}
	for _, t := range tids {
		r.Opens = append(r.Opens, Open{Tid: t})
	}
	return r
}

func decided(tids ...api.Tid) Rec {
	r := Rec{Kind: Check}
	for _, t := range tids {
		r.Dones = append(r.Dones, Done{Tid: t})
	}
	return r
}

// tids are so many transactions, the elder ones ahead.
func tids(count int) []api.Tid {
	var out []api.Tid
	for i := range count {
		out = append(out, api.Tid{Num: uint64(i / 2), Node: i % 2})
	}
	return out
}

// keys are so many right ones of so many bytes, in order.
func keys(count, size int) []string {
	var out []string
	for i := range count {
		out = append(out, fmt.Sprintf("%0*d", size, i))
	}
	return out
}

// upTo are the numbers from 0 on.
func upTo(count int) []int {
	var out []int
	for i := range count {
		out = append(out, i)
	}
	return out
}

// leaf is a change of a page to a leaf of one key.
func leaf(n int) space.Change {
	return space.Change{N: n, P: page.Page{Kind: page.Leaf, Keys: []string{"a"}, Vals: []string{"x"}}}
}

func leaves(count int) []space.Change {
	var out []space.Change
	for i := range count {
		out = append(out, leaf(i))
	}
	return out
}

// fullLeaf is a change to the leaf that has the most bytes.
func fullLeaf(n int) space.Change {
	v := strings.Repeat("v", 48)
	return space.Change{N: n, P: page.Page{Kind: page.Leaf, Keys: keys(6, 24), Vals: []string{v, v, v, v, v, v}}}
}

// told is all that a record has, as text: so nil and empty are one.
func told(r Rec) string {
	var b strings.Builder
	fmt.Fprintf(&b, "%d %v %q %v %q %d %v %q", r.Kind, r.Tid, r.Key, r.Was, r.Old, r.Prev, r.Nodes, r.Reads)
	for _, c := range r.Pages {
		p := c.P
		fmt.Fprintf(&b, " page %d: %d %q %q %v %d %d %d %d", c.N, p.Kind, p.Keys, p.Vals, p.Kids, p.Root, p.Next, p.Size, p.Idle)
	}
	for _, o := range r.Opens {
		fmt.Fprintf(&b, " open %s", toldOpen(o))
	}
	for _, d := range r.Dones {
		fmt.Fprintf(&b, " done %v: %v", d.Tid, d.Nodes)
	}
	return b.String()
}

func toldOpen(o Open) string {
	return fmt.Sprintf("%v: %d %d %d %v %q", o.Tid, o.Last, o.First, o.Count, o.Ready, o.Reads)
}

// P11.1: the kinds' numbers and the limits, as the chapter says them.
func TestKinds(t *testing.T) {
	if got := []int{Update, Undo, Prepare, Commit, Abort, Decide, End, Check}; !slices.Equal(got, []int{1, 2, 3, 4, 5, 6, 7, 8}) {
		t.Error(got)
	}
	if MaxOpen != 200 || MaxPages != 30 || MaxReads != 100 {
		t.Error(MaxOpen, MaxPages, MaxReads)
	}
}

// P11.2: a Clone is the same in all fields, and apart: neither is turned with the other.
func TestClone(t *testing.T) {
	full := func() Open {
		return Open{Tid: five(), Last: 4, First: 2, Count: 3, Ready: true, Reads: []string{"a", "b"}}
	}
	wrong := func() Open {
		return Open{Tid: api.Tid{Num: 1 << 63, Node: -1}, Last: 1 << 63, Count: -1, Reads: []string{"b", "", "b"}}
	}
	for i, made := range []func() Open{full, wrong, func() Open { return Open{} }, func() Open { return Open{Reads: []string{}} }} {
		o := made()
		c := o.Clone()
		if toldOpen(c) != toldOpen(made()) {
			t.Error(i, "Clone", c)
		}
		_ = append(c.Reads, "more")
		clear(c.Reads)
		if toldOpen(o) != toldOpen(made()) {
			t.Error(i, "turned with its Clone", o)
		}
		c = o.Clone()
		clear(o.Reads)
		if toldOpen(c) != toldOpen(made()) {
			t.Error(i, "the Clone was turned", c)
		}
	}
}
