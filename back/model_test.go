package back

import (
	"fmt"
	"math/rand"
	"slices"
	"testing"

	"dockmaster/api"
	"dockmaster/page"
	"dockmaster/rec"
	"dockmaster/space"
)

// model is a plan told plainly, transaction by transaction and page by page, each by all records behind the last Check.
func model(all []Item, tids []api.Tid, pages []int) Plan {
	at := -1
	for i := range all {
		if all[i].Rec.Kind == rec.Check {
			at = i
		}
	}
	if at < 0 {
		return Plan{Fresh: true}
	}
	var p Plan
	for _, t := range tids {
		if o := openBy(all[at].Rec.Opens, all[at+1:], t); o != nil {
			p.Opens = append(p.Opens, *o)
		}
		if d := doneBy(all[at].Rec.Dones, all[at+1:], t); d != nil {
			p.Dones = append(p.Dones, *d)
		}
	}
	for _, n := range pages {
		if i := imageBy(all[at+1:], n); i != nil {
			p.Pages = append(p.Pages, *i)
		}
	}
	return p
}

func openBy(begun []rec.Open, behind []Item, t api.Tid) *rec.Open {
	var is *rec.Open
	for _, o := range begun {
		if o.Tid == t {
			is = &o
		}
	}
	for _, x := range behind {
		kind := x.Rec.Kind
		if x.Rec.Tid != t {
			continue
		}
		if kind == rec.Commit || kind == rec.Abort {
			is = nil
		}
		if kind < rec.Update || kind > rec.Prepare {
			continue
		}
		if is == nil {
			is = &rec.Open{Tid: t}
		}
		if kind == rec.Prepare {
			is.Ready, is.Reads = true, x.Rec.Reads
			continue
		}
		is.Last = x.LSN + 1
		if kind == rec.Update {
			is.Count++
			if is.First < 1 {
				is.First = is.Last
			}
			continue
		}
		is.Ready, is.Reads = false, nil
		if is.Count--; is.Count < 0 {
			is.Count = 0
		}
	}
	return is
}

func doneBy(begun []rec.Done, behind []Item, t api.Tid) *rec.Done {
	var is *rec.Done
	for _, d := range begun {
		if d.Tid == t {
			is = &d
		}
	}
	for _, x := range behind {
		if x.Rec.Tid == t && x.Rec.Kind == rec.Decide {
			is = &rec.Done{Tid: t, Nodes: x.Rec.Nodes}
		}
		if x.Rec.Tid == t && x.Rec.Kind == rec.End {
			is = nil
		}
	}
	return is
}

func imageBy(behind []Item, n int) *Image {
	var is *Image
	for _, x := range behind {
		for _, c := range x.Rec.Pages {
			if c.N == n {
				is = &Image{N: n, P: c.P, LSN: x.LSN}
			}
		}
	}
	return is
}

// dice makes records of few transactions and pages, so that they meet often.
type dice struct {
	*rand.Rand
	tids  []api.Tid
	pages []int
}

func newDice(seed int64) dice {
	d := dice{Rand: rand.New(rand.NewSource(seed)), pages: []int{0, 1, 2, 9, 10, 65535}}
	for i := range 1 + d.Intn(6) {
		d.tids = append(d.tids, api.Tid{Num: uint64(1 + i/2), Node: 7 * (i % 2)})
	}
	return d
}

func (d dice) tid() api.Tid { return d.tids[d.Intn(len(d.tids))] }

func (d dice) reads() []string { return []string{"a", "b", "c"}[:d.Intn(4)] }

func (d dice) nodes() []int { return []int{0, 5, 63}[:d.Intn(4)] }

func (d dice) changes() []space.Change {
	var out []space.Change
	for range d.Intn(4) {
		x := page.Page{Kind: page.Leaf, Keys: []string{fmt.Sprint(d.Intn(99))}, Vals: []string{"x"}}
		out = append(out, space.Change{N: d.pages[d.Intn(len(d.pages))], P: x})
	}
	return out
}

func (d dice) check() rec.Rec {
	r := rec.Rec{Kind: rec.Check}
	for range d.Intn(5) {
		r.Opens = append(r.Opens, rec.Open{Tid: d.tid(), Last: uint64(d.Intn(3)), First: uint64(d.Intn(3)), Count: d.Intn(3), Ready: d.Intn(2) == 0, Reads: d.reads()})
		r.Dones = append(r.Dones, rec.Done{Tid: d.tid(), Nodes: d.nodes()})
	}
	return r
}

// rec is a record; checks is how often it is a Check, of a hundred.
func (d dice) rec(checks int) rec.Rec {
	r := rec.Rec{Kind: d.Intn(10), Tid: d.tid()}
	if d.Intn(2) == 0 {
		r.Kind = rec.Update
	}
	switch r.Kind {
	case rec.Update, rec.Undo:
		r.Pages = d.changes()
	case rec.Prepare:
		r.Reads = d.reads()
	case rec.Decide:
		r.Nodes = d.nodes()
	case rec.Check:
		r.Kind = rec.End
	}
	if d.Intn(100) < checks {
		return d.check()
	}
	return r
}

func (d dice) items(count, checks int) []Item {
	var all []Item
	lsn := uint64(d.Intn(2))
	for range count {
		all = append(all, Item{LSN: lsn, Rec: d.rec(checks)})
		lsn += 1 + uint64(d.Intn(3))
	}
	return all
}

// P13.1, P13.2: many lists of records, held against the model behind each record.
func TestRandom(t *testing.T) {
	for seed := range int64(100) {
		d := newDice(seed)
		all := d.items(60, 5)
		for i := range all {
			p, want := plan(t, all[:i+1:i+1]...), model(all[:i+1], d.tids, d.pages)
			is(t, "the plan", planText(p), planText(want))
			is(t, "Lost", lostText(p), lostText(want))
			if t.Failed() {
				t.Fatal("seed", seed, "items", itemsText(all[:i+1:i+1]))
			}
		}
	}
}

// P13.1: a Check of what there is tells the same as the records ahead of it, but for their Pages: what a store that cuts its log leans on.
func TestCheckBetween(t *testing.T) {
	for seed := range int64(100) {
		d := newDice(seed)
		all := append([]Item{{Rec: d.check()}}, d.items(30, 0)...)
		whole := Of(all)
		for i := 1; i <= len(all); i++ {
			so := Of(all[:i])
			between := Item{LSN: 1000, Rec: rec.Rec{Kind: rec.Check, Opens: so.Opens, Dones: so.Dones}}
			p := plan(t, slices.Concat(all[:i], []Item{between}, all[i:])...)
			is(t, "Opens", opensText(p), opensText(whole))
			is(t, "Dones", donesText(p), donesText(whole))
			is(t, "Pages", pagesText(p), pagesText(Of(append([]Item{check(0)}, all[i:]...))))
			if t.Failed() {
				t.Fatal("seed", seed, "behind", i)
			}
		}
	}
}

// P13.1: what has gone through its bytes (layer 11) tells the same.
func TestThroughBytes(t *testing.T) {
	read := 0
	for seed := range int64(100) {
		var all, again []Item
		for _, x := range append([]Item{check(0)}, newDice(seed).items(40, 4)...) {
			if x.Rec.Kind == rec.Update {
				x.Rec.Key = "k"
			}
			b, err := rec.Encode(x.Rec)
			if err != api.OK {
				continue
			}
			r, err := rec.Decode(b)
			if err != api.OK {
				t.Fatal("Decode", err)
			}
			all, again = append(all, x), append(again, Item{LSN: x.LSN, Rec: r})
		}
		read += len(all)
		is(t, "the plan", planText(Of(again)), planText(Of(all)))
	}
	if read < 1000 {
		t.Error("records that are right:", read)
	}
}
