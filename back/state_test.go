package back

import (
	"math"
	"testing"

	"dockmaster/api"
	"dockmaster/rec"
)

// P13.1: each kind of record, of a transaction that a Check has open in each way, or hasn't; the record's number is 40.
func TestEachKind(t *testing.T) {
	reads := []string{"p", "q"}
	starts := map[string][]rec.Open{
		"isn't open":     nil,
		"of nothing":     {{Tid: five()}},
		"with First":     {{Tid: five(), Last: 30, First: 20, Count: 2}},
		"with Last":      {{Tid: five(), Last: 30, Count: 2}},
		"at Count 0":     {{Tid: five(), Last: 30, First: 20}},
		"below 0":        {{Tid: five(), Last: 30, First: 20, Count: -7}},
		"the least":      {{Tid: five(), Count: math.MinInt}},
		"Ready":          {{Tid: five(), Last: 30, First: 20, Count: 1, Ready: true, Reads: reads}},
		"Ready, no more": {{Tid: five(), Ready: true}},
		"Reads alone":    {{Tid: five(), Count: 1, Reads: reads}},
	}
	bare := map[string]string{
		"isn't open": "", "of nothing": "5.1:0,0,0", "with First": "5.1:30,20,2", "with Last": "5.1:30,0,2", "at Count 0": "5.1:30,20,0",
		"below 0": "5.1:30,20,-7", "the least": "5.1:0,0,-9223372036854775808",
		"Ready": `5.1:30,20,1!["p" "q"]`, "Ready, no more": "5.1:0,0,0!", "Reads alone": `5.1:0,0,1["p" "q"]`,
	}
	ended := map[string]string{}
	for _, c := range []struct {
		x    Item
		want map[string]string
	}{
		{item(40, rec.Update, five()), map[string]string{
			"isn't open": "5.1:41,41,1", "of nothing": "5.1:41,41,1", "with First": "5.1:41,20,3", "with Last": "5.1:41,41,3", "at Count 0": "5.1:41,20,1",
			"below 0": "5.1:41,20,-6", "the least": "5.1:41,41,-9223372036854775807",
			"Ready": `5.1:41,20,2!["p" "q"]`, "Ready, no more": "5.1:41,41,1!", "Reads alone": `5.1:41,41,2["p" "q"]`,
		}},
		{item(40, rec.Undo, five()), map[string]string{
			"isn't open": "5.1:41,0,0", "of nothing": "5.1:41,0,0", "with First": "5.1:41,20,1", "with Last": "5.1:41,0,1", "at Count 0": "5.1:41,20,0",
			"below 0": "5.1:41,20,0", "the least": "5.1:41,0,0",
			"Ready": "5.1:41,20,0", "Ready, no more": "5.1:41,0,0", "Reads alone": "5.1:41,0,0",
		}},
		{prepare(40, five(), "r"), map[string]string{
			"isn't open": `5.1:0,0,0!["r"]`, "of nothing": `5.1:0,0,0!["r"]`, "with First": `5.1:30,20,2!["r"]`, "with Last": `5.1:30,0,2!["r"]`, "at Count 0": `5.1:30,20,0!["r"]`,
			"below 0": `5.1:30,20,-7!["r"]`, "the least": `5.1:0,0,-9223372036854775808!["r"]`,
			"Ready": `5.1:30,20,1!["r"]`, "Ready, no more": `5.1:0,0,0!["r"]`, "Reads alone": `5.1:0,0,1!["r"]`,
		}},
		{prepare(40, five()), map[string]string{
			"isn't open": "5.1:0,0,0!", "of nothing": "5.1:0,0,0!", "with First": "5.1:30,20,2!", "with Last": "5.1:30,0,2!", "at Count 0": "5.1:30,20,0!",
			"below 0": "5.1:30,20,-7!", "the least": "5.1:0,0,-9223372036854775808!",
			"Ready": "5.1:30,20,1!", "Ready, no more": "5.1:0,0,0!", "Reads alone": "5.1:0,0,1!",
		}},
		{item(40, rec.Commit, five()), ended},
		{item(40, rec.Abort, five()), ended},
		{decide(40, five(), 1, 2), bare},
		{item(40, rec.End, five()), bare},
		{item(40, 0, five()), bare},
		{item(40, 9, five()), bare},
		{item(40, -1, five()), bare},
		{item(40, math.MaxInt, five()), bare},
		{item(40, math.MinInt, five()), bare},
	} {
		for name, opens := range starts {
			p := plan(t, check(39, opens...), c.x)
			is(t, name+", by "+itemsText([]Item{c.x}), opensText(p), c.want[name])
			dones := ""
			if c.x.Rec.Kind == rec.Decide {
				dones = "5.1[1,2]"
			}
			is(t, "Dones, by "+itemsText([]Item{c.x}), donesText(p), dones)
		}
	}
}

// P13.1: records one behind the other, from number 40 on, of a transaction that isn't open first.
func TestOneByOne(t *testing.T) {
	for _, c := range []struct {
		kinds []int
		want  string
	}{
		{[]int{rec.Update, rec.Update, rec.Update}, "5.1:43,41,3"},
		{[]int{rec.Update, rec.Undo}, "5.1:42,41,0"},
		{[]int{rec.Update, rec.Undo, rec.Undo}, "5.1:43,41,0"},
		{[]int{rec.Update, rec.Undo, rec.Undo, rec.Update}, "5.1:44,41,1"},
		{[]int{rec.Update, rec.Update, rec.Undo}, "5.1:43,41,1"},
		{[]int{rec.Undo, rec.Update}, "5.1:42,42,1"},
		{[]int{rec.Undo, rec.Undo}, "5.1:42,0,0"},
		{[]int{rec.Prepare, rec.Update}, `5.1:42,42,1!["40"]`},
		{[]int{rec.Prepare, rec.Undo}, "5.1:42,0,0"},
		{[]int{rec.Prepare, rec.Prepare}, `5.1:0,0,0!["41"]`},
		{[]int{rec.Update, rec.Prepare}, `5.1:41,41,1!["41"]`},
		{[]int{rec.Update, rec.Prepare, rec.Update}, `5.1:43,41,2!["41"]`},
		{[]int{rec.Update, rec.Prepare, rec.Undo}, "5.1:43,41,0"},
		{[]int{rec.Update, rec.Prepare, rec.Undo, rec.Prepare}, `5.1:43,41,0!["43"]`},
		{[]int{rec.Update, rec.Prepare, rec.Decide}, `5.1:41,41,1!["41"]`},
		{[]int{rec.Update, rec.Commit}, ""},
		{[]int{rec.Update, rec.Update, rec.Abort}, ""},
		{[]int{rec.Update, rec.Prepare, rec.Commit}, ""},
		{[]int{rec.Commit, rec.Update}, "5.1:42,42,1"},
		{[]int{rec.Update, rec.Update, rec.Commit, rec.Update}, "5.1:44,44,1"},
		{[]int{rec.Update, rec.Prepare, rec.Commit, rec.Undo}, "5.1:44,0,0"},
		{[]int{rec.Update, rec.Abort, rec.Prepare}, `5.1:0,0,0!["42"]`},
		{[]int{rec.Update, rec.Prepare, rec.Abort, rec.Update}, "5.1:44,44,1"},
		{[]int{rec.Update, rec.Commit, rec.Abort}, ""},
		{[]int{rec.Update, rec.End, rec.Update}, "5.1:43,41,2"},
		{[]int{rec.Update, 9, 0}, "5.1:41,41,1"},
	} {
		all := []Item{check(39)}
		for i, kind := range c.kinds {
			x := item(40+uint64(i), kind, five())
			if kind == rec.Prepare {
				x.Rec.Reads = []string{string([]byte{'4', '0' + byte(i)})}
			}
			all = append(all, x)
		}
		is(t, itemsText(all), opensText(plan(t, all...)), c.want)
	}
}

// P13.1: it is the entry's number and 1 that counts, whatever the number: from 0 on, and whatever other numbers stand beside it.
func TestNumbers(t *testing.T) {
	for _, c := range []struct {
		lsns []uint64
		want string
	}{
		{[]uint64{0}, "5.1:1,1,1"},
		{[]uint64{0, 0}, "5.1:1,1,2"},
		{[]uint64{0, 1}, "5.1:2,1,2"},
		{[]uint64{1}, "5.1:2,2,1"},
		{[]uint64{7, 70, 700}, "5.1:701,8,3"},
		{[]uint64{9, 3}, "5.1:4,10,2"},
		{[]uint64{1<<62 - 1}, "5.1:4611686018427387904,4611686018427387904,1"},
		{[]uint64{math.MaxUint64 - 1}, "5.1:18446744073709551615,18446744073709551615,1"},
	} {
		all := []Item{check(5)}
		for _, n := range c.lsns {
			x := item(n, rec.Update, five())
			x.Rec.Prev = 1000
			all = append(all, x)
		}
		is(t, itemsText(all), opensText(plan(t, all...)), c.want)
	}
	is(t, "an Undo at 0", opensText(plan(t, check(5, rec.Open{Tid: five(), Last: 9, First: 3, Count: 2}), item(0, rec.Undo, five()))), "5.1:1,3,1")
}

// P13.1: the Dones, by Decides and Ends behind what the Check has.
func TestDones(t *testing.T) {
	a, b := api.Tid{Num: 4}, api.Tid{Num: 5}
	start := checkDones(1, rec.Done{Tid: a, Nodes: []int{1, 2}})
	for _, c := range []struct {
		name string
		all  []Item
		want string
	}{
		{"another one", []Item{decide(2, b, 3, 4)}, "4.0[1,2] 5.0[3,4]"},
		{"of no nodes", []Item{decide(2, b)}, "4.0[1,2] 5.0[]"},
		{"the same, other nodes", []Item{decide(2, a, 0, 2)}, "4.0[0,2]"},
		{"the same, fewer", []Item{decide(2, a, 2)}, "4.0[2]"},
		{"the same, none", []Item{decide(2, a)}, "4.0[]"},
		{"twice", []Item{decide(2, b, 3), decide(3, b, 4)}, "4.0[1,2] 5.0[4]"},
		{"ended", []Item{item(2, rec.End, a)}, ""},
		{"ended, not decided", []Item{item(2, rec.End, b)}, "4.0[1,2]"},
		{"decided and ended", []Item{decide(2, b, 3), item(3, rec.End, b)}, "4.0[1,2]"},
		{"ended and decided", []Item{item(2, rec.End, a), decide(3, a, 7)}, "4.0[7]"},
		{"ended twice", []Item{item(2, rec.End, a), item(3, rec.End, a)}, ""},
		{"committed", []Item{item(2, rec.Commit, a)}, "4.0[1,2]"},
		{"given up", []Item{item(2, rec.Abort, a)}, "4.0[1,2]"},
		{"turned", []Item{item(2, rec.Update, a), item(3, rec.Undo, a), prepare(4, a)}, "4.0[1,2]"},
		{"no kind", []Item{item(2, 0, a), item(3, 9, a)}, "4.0[1,2]"},
	} {
		is(t, c.name, donesText(plan(t, append([]Item{start}, c.all...)...)), c.want)
	}
	p := plan(t, start, item(2, rec.Update, b), decide(3, b, 6), prepare(4, b, "r"))
	is(t, "open and decided, Opens", opensText(p), `5.0:3,3,1!["r"]`)
	is(t, "open and decided, Dones", donesText(p), "4.0[1,2] 5.0[6]")
	p = plan(t, start, item(2, rec.Update, b), decide(3, b, 6), item(4, rec.Commit, b))
	is(t, "committed behind it, Opens", opensText(p), "")
	is(t, "committed behind it, Dones", donesText(p), "4.0[1,2] 5.0[6]")
}
