package back

import (
	"fmt"
	"testing"

	"dockmaster/api"
	"dockmaster/page"
	"dockmaster/rec"
	"dockmaster/space"
)

// roomy is a list that has room behind it, so that an append to it, or to one that shares it, is seen.
func roomy[T any](list ...T) []T {
	return append(make([]T, 0, len(list)+3), list...)
}

// shared is items whose lists are one memory wherever they can be.
func shared() []Item {
	reads, nodes := roomy("p", "q"), roomy(1, 2)
	leaf := page.Page{Kind: page.Leaf, Keys: reads, Vals: reads, Kids: nodes}
	opens := roomy(rec.Open{Tid: api.Tid{Num: 1}, Ready: true, Reads: reads}, rec.Open{Tid: api.Tid{Num: 2}, Reads: reads})
	dones := roomy(rec.Done{Tid: api.Tid{Num: 1}, Nodes: nodes}, rec.Done{Tid: api.Tid{Num: 2}, Nodes: nodes})
	pages := roomy(space.Change{N: 3, P: leaf}, space.Change{N: 4, P: leaf})
	return roomy(
		Item{LSN: 1, Rec: rec.Rec{Kind: rec.Check, Opens: opens, Dones: dones}},
		Item{LSN: 2, Rec: rec.Rec{Kind: rec.Update, Tid: api.Tid{Num: 3}, Pages: pages}},
		Item{LSN: 3, Rec: rec.Rec{Kind: rec.Undo, Tid: api.Tid{Num: 2}, Pages: pages[:1]}},
		Item{LSN: 4, Rec: rec.Rec{Kind: rec.Prepare, Tid: api.Tid{Num: 4}, Reads: reads}},
		Item{LSN: 5, Rec: rec.Rec{Kind: rec.Prepare, Tid: api.Tid{Num: 5}, Reads: reads}},
		Item{LSN: 6, Rec: rec.Rec{Kind: rec.Decide, Tid: api.Tid{Num: 4}, Nodes: nodes}},
		Item{LSN: 7, Rec: rec.Rec{Kind: rec.Decide, Tid: api.Tid{Num: 5}, Nodes: nodes}},
	)
}

// inner is what turns one list that stands in a plan's own, each.
func inner() map[string]func(p Plan) {
	spoil := map[string]func(p Plan){}
	for i := range 4 {
		spoil[fmt.Sprint("Reads ", i)] = func(p Plan) { spoilList(p.Opens[i].Reads, "x") }
		spoil[fmt.Sprint("Nodes ", i)] = func(p Plan) { spoilList(p.Dones[i].Nodes, 9) }
	}
	for i := range 2 {
		spoil[fmt.Sprint("Keys ", i)] = func(p Plan) { spoilList(p.Pages[i].P.Keys, "x") }
		spoil[fmt.Sprint("Vals ", i)] = func(p Plan) { spoilList(p.Pages[i].P.Vals, "x") }
		spoil[fmt.Sprint("Kids ", i)] = func(p Plan) { spoilList(p.Pages[i].P.Kids, 9) }
	}
	return spoil
}

// spoils is what turns any list of a plan, also behind its end.
func spoils() map[string]func(p Plan) {
	spoil := inner()
	spoil["Opens"] = func(p Plan) { spoilList(p.Opens, rec.Open{Last: 99}) }
	spoil["Dones"] = func(p Plan) { spoilList(p.Dones, rec.Done{Tid: five()}) }
	spoil["Pages"] = func(p Plan) { spoilList(p.Pages, Image{N: 99}) }
	spoil["Lost"] = func(p Plan) { spoilList(p.Lost(), five()) }
	return spoil
}

func spoilList[T any](list []T, by T) {
	_ = append(list, by)
	for i := range list {
		list[i] = by
	}
}

// Rule 4: a plan is apart from what was handed in, and from another plan.
func TestApart(t *testing.T) {
	for name, spoil := range spoils() {
		all := shared()
		before := itemsText(all)
		p, q := Of(all), Of(all)
		kept := planText(p)
		spoil(q)
		is(t, name+": what was handed in", itemsText(all), before)
		is(t, name+": the other plan", planText(p), kept)
	}
}

// Rule 4: no two lists of a plan are one.
func TestApartInside(t *testing.T) {
	for name, spoil := range inner() {
		p := Of(shared())
		want := lists(p)
		spoil(p)
		turned := 0
		for i, s := range lists(p) {
			if s != want[i] {
				turned++
			}
		}
		if turned > 1 {
			t.Errorf("%s: turned %d", name, turned)
		}
	}
}

// lists is a plan's lists that stand in its own lists, as texts.
func lists(p Plan) []string {
	var out []string
	for _, o := range p.Opens {
		out = append(out, texts(o.Reads[:cap(o.Reads)], func(s string) string { return s }))
	}
	for _, d := range p.Dones {
		out = append(out, doneText(rec.Done{Nodes: d.Nodes[:cap(d.Nodes)]}))
	}
	for _, i := range p.Pages {
		out = append(out, pageText(0, page.Page{Keys: i.P.Keys}), pageText(0, page.Page{Vals: i.P.Vals}), pageText(0, page.Page{Kids: i.P.Kids}))
	}
	return out
}

// Rule 4: what was handed in may be turned behind the call.
func TestApartFromLater(t *testing.T) {
	all := shared()
	p := Of(all)
	want := planText(p)
	for _, x := range all {
		spoilList(x.Rec.Reads, "x")
		spoilList(x.Rec.Nodes, 9)
		for _, c := range x.Rec.Pages {
			spoilList(c.P.Keys, "x")
			spoilList(c.P.Vals, "y")
			spoilList(c.P.Kids, 9)
		}
		for _, o := range x.Rec.Opens {
			spoilList(o.Reads, "x")
		}
		for _, d := range x.Rec.Dones {
			spoilList(d.Nodes, 9)
		}
		clear(x.Rec.Opens)
		clear(x.Rec.Dones)
		clear(x.Rec.Pages)
	}
	clear(all)
	is(t, "the plan", planText(p), want)
	is(t, "Opens", opensText(p), `1.0:0,0,0!["p" "q"] 2.0:4,0,0 3.0:3,3,1 4.0:0,0,0!["p" "q"] 5.0:0,0,0!["p" "q"]`)
}
