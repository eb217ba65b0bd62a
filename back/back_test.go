package back

import (
	"math"
	"slices"
	"strings"
	"testing"

	"dockmaster/api"
	"dockmaster/rec"
)

// P13.1: without a Check there is nothing yet, whatever there is.
func TestFresh(t *testing.T) {
	tid := five()
	full := []Item{
		with(item(0, rec.Update, tid), free(3, 1)),
		with(item(1, rec.Undo, tid), free(4, 1)),
		prepare(2, tid, "a"),
		decide(3, tid, 1, 2),
		item(4, rec.Update, api.Tid{Num: 6}),
		item(5, 0, tid),
		item(6, 9, tid),
		item(7, -rec.Check, tid),
	}
	for name, all := range map[string][]Item{
		"nil":      nil,
		"empty":    {},
		"update":   full[:1],
		"prepare":  full[2:3],
		"decide":   full[3:4],
		"wrong":    full[5:],
		"all":      full,
		"commit":   {item(0, rec.Commit, tid)},
		"abort":    {item(0, rec.Abort, tid)},
		"end":      {item(0, rec.End, tid)},
		"opens":    {{Rec: rec.Rec{Kind: rec.End, Opens: []rec.Open{{Tid: tid}}, Dones: []rec.Done{{Tid: tid}}}}},
		"no kind":  {{Rec: rec.Rec{Opens: []rec.Open{{Tid: tid}}, Dones: []rec.Done{{Tid: tid}}}}},
		"kind 9":   {{Rec: rec.Rec{Kind: 9, Opens: []rec.Open{{Tid: tid}}}}},
		"kind max": {{Rec: rec.Rec{Kind: math.MaxInt}}, {Rec: rec.Rec{Kind: math.MinInt}}},
	} {
		p := plan(t, all...)
		is(t, name, planText(p), planText(Plan{Fresh: true}))
		is(t, name+", Lost", lostText(p), "")
	}
	is(t, "with a Check", planText(plan(t, append(full, check(8))...)), planText(Plan{}))
}

// P13.1: a Check alone tells its Opens and Dones, and nothing else; an empty one isn't Fresh.
func TestCheckAlone(t *testing.T) {
	is(t, "of nothing", planText(plan(t, check(0))), planText(Plan{}))
	x := check(7, rec.Open{Tid: five(), Last: 300, First: 2, Count: 4, Ready: true, Reads: []string{"a", "b"}}, rec.Open{Tid: api.Tid{Num: 6}})
	x.Rec.Dones = []rec.Done{{Tid: five(), Nodes: []int{0, 63}}, {Tid: api.Tid{Num: 5, Node: 2}}}
	p := plan(t, x)
	if p.Fresh {
		t.Error("Fresh")
	}
	is(t, "Opens", opensText(p), `5.1:300,2,4!["a" "b"] 6.0:0,0,0`)
	is(t, "Dones", donesText(p), "5.1[0,63] 5.2[]")
	is(t, "Pages", pagesText(p), "")
	is(t, "Lost", lostText(p), "6.0")
}

// P13.1: the Pages are those of the records behind the Check, not its own.
func TestCheckWithPages(t *testing.T) {
	p := plan(t, with(check(7), free(3, 1)), with(item(8, rec.Update, five()), free(4, 1)))
	is(t, "Pages", pagesText(p), freeText(4, 1, 8))
}

// P13.1: the last Check counts; what stands ahead of it is left out, its Pages too.
func TestLastCheck(t *testing.T) {
	a, b, c := api.Tid{Num: 1}, api.Tid{Num: 2}, api.Tid{Num: 3}
	first := check(0, rec.Open{Tid: a, Last: 9, First: 9, Count: 9})
	first.Rec.Dones = []rec.Done{{Tid: a, Nodes: []int{9}}}
	all := []Item{
		with(item(1, rec.Update, a), free(2, 1)),
		first,
		with(item(3, rec.Update, b), free(3, 1), free(4, 1)),
		prepare(5, c, "r"),
		decide(6, c, 1),
		check(7, rec.Open{Tid: b, Last: 4, First: 4, Count: 1}),
		with(item(8, rec.Update, b), free(4, 2)),
		with(item(10, rec.Update, c), free(5, 2)),
		decide(11, b, 2),
	}
	p := plan(t, all...)
	is(t, "Opens", opensText(p), "2.0:9,4,2 3.0:11,11,1")
	is(t, "Dones", donesText(p), "2.0[2]")
	is(t, "Pages", pagesText(p), freeText(4, 2, 8)+" "+freeText(5, 2, 10))

	p = plan(t, append(all, check(12))...)
	is(t, "a third Check", planText(p), planText(Plan{}))
	p = plan(t, append(all, check(12), check(13, rec.Open{Tid: c}), item(14, rec.Undo, c))...)
	is(t, "two, one behind the other", planText(p), planText(Plan{Opens: []rec.Open{{Tid: c, Last: 15}}}))
	p = plan(t, all[:5]...)
	is(t, "the first Check, Opens", opensText(p), `1.0:9,9,9 2.0:4,4,1 3.0:0,0,0!["r"]`)
	is(t, "the first Check, Dones", donesText(p), "1.0[9] 3.0[1]")
	is(t, "the first Check, Pages", pagesText(p), freeText(3, 1, 3)+" "+freeText(4, 1, 3))
}

// P13.1: of one transaction that a Check names more than once the last one counts, whole.
func TestCheckTwice(t *testing.T) {
	a, b := api.Tid{Num: 1}, api.Tid{Num: 2}
	full := rec.Open{Tid: a, Last: 8, First: 3, Count: 2, Ready: true, Reads: []string{"x"}}
	is(t, "the last one is empty", opensText(plan(t, check(9, full, rec.Open{Tid: a}))), "1.0:0,0,0")
	is(t, "the last one is full", opensText(plan(t, check(9, rec.Open{Tid: a, Last: 9, First: 9, Count: 9}, full))), `1.0:8,3,2!["x"]`)
	is(t, "three times", opensText(plan(t, check(9, rec.Open{Tid: a, Last: 5}, rec.Open{Tid: b, Last: 7}, full, rec.Open{Tid: a, Last: 6}))), "1.0:6,0,0 2.0:7,0,0")
	is(t, "an Update behind it", opensText(plan(t, check(9, full, rec.Open{Tid: a, Last: 4, First: 4, Count: 1}), item(10, rec.Update, a))), "1.0:11,4,2")

	is(t, "Dones, fewer", donesText(plan(t, checkDones(9, rec.Done{Tid: a, Nodes: []int{1, 2}}, rec.Done{Tid: a, Nodes: []int{2}}))), "1.0[2]")
	is(t, "Dones, none", donesText(plan(t, checkDones(9, rec.Done{Tid: a, Nodes: []int{1, 2}}, rec.Done{Tid: b}, rec.Done{Tid: a}))), "1.0[] 2.0[]")
	is(t, "Dones, others", donesText(plan(t, checkDones(9, rec.Done{Tid: a}, rec.Done{Tid: b}, rec.Done{Tid: a, Nodes: []int{3}}))), "1.0[3] 2.0[]")
}

// P13.1: the elder ones are ahead, whatever the order in which they come; the same Num at other Nodes are others.
func TestOrder(t *testing.T) {
	tids := []api.Tid{{}, {Node: 1}, {Num: 1}, {Num: 2, Node: 3}, {Num: 2, Node: 10}, {Num: 10}, {Num: 256, Node: 63}, {Num: api.MaxTid}}
	opens := "0.0:1,1,1 0.1:1,1,1 1.0:1,1,1 2.3:1,1,1 2.10:1,1,1 10.0:1,1,1 256.63:1,1,1 1099511627776.0:1,1,1"
	dones := "0.0[1] 0.1[1] 1.0[1] 2.3[1] 2.10[1] 10.0[1] 256.63[1] 1099511627776.0[1]"
	back := slices.Clone(tids)
	slices.Reverse(back)
	for name, order := range map[string][]api.Tid{
		"in order":  tids,
		"backwards": back,
		"mixed":     {tids[4], tids[0], tids[7], tids[3], tids[1], tids[6], tids[2], tids[5]},
	} {
		begun, behind := check(9), []Item{check(9)}
		half, rest := check(9), []Item{}
		for i, tid := range order {
			o, d := rec.Open{Tid: tid, Last: 1, First: 1, Count: 1}, rec.Done{Tid: tid, Nodes: []int{1}}
			update, decided := item(0, rec.Update, tid), decide(0, tid, 1)
			begun.Rec.Opens, begun.Rec.Dones = append(begun.Rec.Opens, o), append(begun.Rec.Dones, d)
			behind = append(behind, update, decided)
			if i%2 == 0 {
				half.Rec.Opens, rest = append(half.Rec.Opens, o), append(rest, decided)
			} else {
				half.Rec.Dones, rest = append(half.Rec.Dones, d), append(rest, update)
			}
		}
		for of, p := range map[string]Plan{"the Check": plan(t, begun), "records": plan(t, behind...), "both": plan(t, append([]Item{half}, rest...)...)} {
			is(t, name+", of "+of, opensText(p), opens)
			is(t, name+", of "+of, donesText(p), dones)
			is(t, name+", Lost of "+of, lostText(p), "0.0 0.1 1.0 2.3 2.10 10.0 256.63 1099511627776.0")
		}
	}
}

// P13.1: one at another node, or of another number, isn't turned by a record.
func TestOthers(t *testing.T) {
	x := check(9, rec.Open{Tid: api.Tid{Num: 5}, Last: 1}, rec.Open{Tid: api.Tid{Num: 6, Node: 1}, Last: 2, Ready: true})
	x.Rec.Dones = []rec.Done{{Tid: api.Tid{Num: 5}, Nodes: []int{1}}, {Tid: api.Tid{Num: 6, Node: 1}, Nodes: []int{2}}}
	for kind := range 10 {
		if kind == rec.Check {
			continue
		}
		p := plan(t, x, item(10, kind, five()))
		opens := slices.DeleteFunc(p.Opens, func(o rec.Open) bool { return o.Tid == five() })
		dones := slices.DeleteFunc(p.Dones, func(d rec.Done) bool { return d.Tid == five() })
		is(t, "Opens", texts(opens, openText), "5.0:1,0,0 6.1:2,0,0!")
		is(t, "Dones", texts(dones, doneText), "5.0[1] 6.1[2]")
	}
}

// P13.1, example 1: of a Check, an Update and a Commit of one transaction.
func TestExample(t *testing.T) {
	p := plan(t, check(0), with(item(1, rec.Update, five()), free(0, 3), free(2, 0)), item(2, rec.Commit, five()))
	is(t, "the plan", planText(p), planText(Plan{Pages: []Image{{0, free(0, 3).P, 1}, {2, free(2, 0).P, 1}}}))
}

// P13.1: what a store would write, with two transactions that are decided, one that is prepared, and one that is undone half way.
func TestWhole(t *testing.T) {
	a, b, c, d := api.Tid{Num: 1}, api.Tid{Num: 1, Node: 2}, api.Tid{Num: 3}, api.Tid{Num: 4, Node: 1}
	start := check(40, rec.Open{Tid: b, Last: 31, First: 28, Count: 2}, rec.Open{Tid: c, Ready: true, Reads: []string{"r"}})
	start.Rec.Dones = []rec.Done{{Tid: api.Tid{Num: 0, Node: 1}, Nodes: []int{2}}}
	all := []Item{
		start,
		with(item(42, rec.Update, a), free(0, 1), free(3, 1)),
		with(item(44, rec.Update, d), free(4, 1)),
		with(item(46, rec.Undo, b), free(3, 2), free(5, 2)),
		prepare(49, a),
		decide(50, a, 1, 2),
		item(51, rec.Commit, a),
		with(item(52, rec.Update, d), free(0, 3)),
		prepare(53, d, "m", "n"),
		item(54, rec.Commit, c),
		item(55, rec.End, api.Tid{Num: 0, Node: 1}),
	}
	p := plan(t, all...)
	is(t, "Opens", opensText(p), `1.2:47,28,1 4.1:53,45,2!["m" "n"]`)
	is(t, "Dones", donesText(p), "1.0[1,2]")
	is(t, "Pages", pagesText(p), strings.Join([]string{freeText(0, 3, 52), freeText(3, 2, 46), freeText(4, 1, 44), freeText(5, 2, 46)}, " "))
	is(t, "Lost", lostText(p), "1.2")
}

// P13.2: of the Opens those that aren't Ready, in order.
func TestLost(t *testing.T) {
	no := func(n uint64) rec.Open { return rec.Open{Tid: api.Tid{Num: n, Node: 1}, Reads: []string{"a"}} }
	yes := func(n uint64) rec.Open { return rec.Open{Tid: api.Tid{Num: n}, Last: 9, Count: 1, Ready: true} }
	for _, c := range []struct {
		opens []rec.Open
		want  string
	}{
		{nil, ""},
		{[]rec.Open{}, ""},
		{[]rec.Open{yes(1)}, ""},
		{[]rec.Open{yes(1), yes(2)}, ""},
		{[]rec.Open{no(1)}, "1.1"},
		{[]rec.Open{no(1), no(2), no(3)}, "1.1 2.1 3.1"},
		{[]rec.Open{yes(1), no(2), yes(3), no(10), no(11), yes(12)}, "2.1 10.1 11.1"},
		{[]rec.Open{no(1), yes(2), no(3)}, "1.1 3.1"},
		{[]rec.Open{{}}, "0.0"},
	} {
		p := Plan{Opens: c.opens, Dones: []rec.Done{{Tid: api.Tid{Num: 7}}}, Pages: []Image{{N: 1}}}
		before := planText(p)
		is(t, before, lostText(p), c.want)
		is(t, "the plan", planText(p), before)
	}
	is(t, "Fresh", lostText(Plan{Fresh: true}), "")
	is(t, "decided ones", lostText(plan(t, checkDones(1, rec.Done{Tid: five()}), decide(2, api.Tid{Num: 9}, 1))), "")
	is(t, "of records", lostText(plan(t, check(1), item(2, rec.Update, api.Tid{Num: 9}), prepare(3, api.Tid{Num: 2}), item(4, rec.Undo, api.Tid{Num: 3}), prepare(5, five()), item(6, rec.Undo, five()))), "3.0 5.1 9.0")
}
