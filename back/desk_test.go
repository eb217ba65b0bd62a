package back

import (
	"fmt"
	"strings"
	"testing"

	"dockmaster/api"
	"dockmaster/page"
	"dockmaster/rec"
	"dockmaster/space"
)

// five is the transaction 5 of node 1, of which most records are.
func five() api.Tid { return api.Tid{Num: 5, Node: 1} }

// item is a record of a transaction, with its entry's number.
func item(lsn uint64, kind int, t api.Tid) Item {
	r := rec.Rec{Kind: kind, Tid: t}
	if kind == rec.Update {
		r.Key = "k"
	}
	return Item{LSN: lsn, Rec: r}
}

func prepare(lsn uint64, t api.Tid, reads ...string) Item {
	x := item(lsn, rec.Prepare, t)
	x.Rec.Reads = reads
	return x
}

func decide(lsn uint64, t api.Tid, nodes ...int) Item {
	x := item(lsn, rec.Decide, t)
	x.Rec.Nodes = nodes
	return x
}

// check is a Check with these Opens.
func check(lsn uint64, opens ...rec.Open) Item {
	return Item{LSN: lsn, Rec: rec.Rec{Kind: rec.Check, Opens: opens}}
}

// checkDones is a Check with these Dones.
func checkDones(lsn uint64, dones ...rec.Done) Item {
	return Item{LSN: lsn, Rec: rec.Rec{Kind: rec.Check, Dones: dones}}
}

// free is a change of a page to a free one: the next one tells which change it is.
func free(n, next int) space.Change {
	return space.Change{N: n, P: page.Page{Kind: page.Free, Next: next}}
}

// with is an item whose record has pages.
func with(x Item, pages ...space.Change) Item {
	x.Rec.Pages = pages
	return x
}

// The texts have all that a plan has, and no more than one for nil and empty.

func tidText(t api.Tid) string { return fmt.Sprintf("%d.%d", t.Num, t.Node) }

// openText is Last, First, Count behind the transaction, ! if it is Ready, and the Reads.
func openText(o rec.Open) string {
	s := fmt.Sprintf("%s:%d,%d,%d", tidText(o.Tid), o.Last, o.First, o.Count)
	if o.Ready {
		s += "!"
	}
	if len(o.Reads) > 0 {
		s += fmt.Sprintf("%q", o.Reads)
	}
	return s
}

func doneText(d rec.Done) string {
	return strings.Join(strings.Fields(fmt.Sprint(tidText(d.Tid), d.Nodes)), ",")
}

func pageText(n int, p page.Page) string {
	s := fmt.Sprintf("%d:%d,%d,%d,%d,%d", n, p.Kind, p.Root, p.Next, p.Size, p.Idle)
	if len(p.Keys)+len(p.Vals)+len(p.Kids) > 0 {
		s += fmt.Sprintf("%q%q%v", p.Keys, p.Vals, p.Kids)
	}
	return s
}

func imageText(i Image) string { return fmt.Sprintf("%s@%d", pageText(i.N, i.P), i.LSN) }

// freeText is the image of a free page.
func freeText(n, next int, lsn uint64) string {
	return imageText(Image{N: n, P: free(n, next).P, LSN: lsn})
}

func texts[T any](list []T, text func(T) string) string {
	var out []string
	for _, x := range list {
		out = append(out, text(x))
	}
	return strings.Join(out, " ")
}

func opensText(p Plan) string { return texts(p.Opens, openText) }
func donesText(p Plan) string { return texts(p.Dones, doneText) }
func pagesText(p Plan) string { return texts(p.Pages, imageText) }
func lostText(p Plan) string  { return texts(p.Lost(), tidText) }

func planText(p Plan) string {
	return fmt.Sprint(p.Fresh, " opens ", opensText(p), " dones ", donesText(p), " pages ", pagesText(p))
}

// itemsText is all that items have, and what lies behind their lists: what is handed in isn't turned there either.
func itemsText(all []Item) string {
	return texts(all[:cap(all)], func(x Item) string {
		r := x.Rec
		return fmt.Sprint(x.LSN, r.Kind, r.Tid, r.Key, r.Was, r.Old, r.Prev, r.Nodes[:cap(r.Nodes)], fmt.Sprintf("%q", r.Reads[:cap(r.Reads)]),
			texts(r.Pages[:cap(r.Pages)], func(c space.Change) string { return pageText(c.N, c.P) }),
			texts(r.Opens[:cap(r.Opens)], openText), texts(r.Dones[:cap(r.Dones)], doneText))
	})
}

// is holds a text against what is expected.
func is(t *testing.T, what, got, want string) {
	t.Helper()
	if got != want {
		t.Errorf("%s: %q, want %q", what, got, want)
	}
}

// plan is Of, with a look at what is so of every plan.
func plan(t *testing.T, all ...Item) Plan {
	t.Helper()
	before := itemsText(all)
	p := Of(all)
	is(t, "what was handed in", itemsText(all), before)
	is(t, "once more", planText(Of(all)), planText(p))
	for i := range len(p.Opens) - 1 {
		if !p.Opens[i].Tid.Elder(p.Opens[i+1].Tid) {
			t.Error("Opens aren't in order", opensText(p))
		}
	}
	for i := range len(p.Dones) - 1 {
		if !p.Dones[i].Tid.Elder(p.Dones[i+1].Tid) {
			t.Error("Dones aren't in order", donesText(p))
		}
	}
	for i := range len(p.Pages) - 1 {
		if p.Pages[i].N >= p.Pages[i+1].N {
			t.Error("Pages aren't in order", pagesText(p))
		}
	}
	return p
}
