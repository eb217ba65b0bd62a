package rec

import (
	"maps"
	"math"
	"slices"
	"strings"
	"testing"

	"dockmaster/api"
	"dockmaster/page"
	"dockmaster/space"
)

// rightRecs is records that are right, by what is at its edge in them.
func rightRecs() map[string]Rec {
	m := map[string]Rec{}
	for _, part := range []map[string]Rec{rightTids(), rightUpdates(), rightUndos(), rightLists(), rightChecks()} {
		maps.Copy(m, part)
	}
	return m
}

func rightTids() map[string]Rec {
	m := map[string]Rec{}
	for kind := Update; kind <= Check; kind++ {
		name := "kind " + string(rune('0'+kind))
		m[name] = of(kind)
		m[name+", lists of none"] = of(kind, func(r *Rec) {
			r.Nodes, r.Reads, r.Pages, r.Opens, r.Dones = []int{}, []string{}, []space.Change{}, []Open{}, []Done{}
		})
		if kind == Check {
			continue
		}
		m[name+", Tid of noughts"] = of(kind, func(r *Rec) { r.Tid = api.Tid{} })
		m[name+", Tid of MaxTid"] = of(kind, func(r *Rec) { r.Tid.Num = 1 << 40 })
		m[name+", Tid of node 63"] = of(kind, func(r *Rec) { r.Tid.Node = 63 })
	}
	return m
}

func rightUpdates() map[string]Rec {
	return map[string]Rec{
		"update, a Key of 24":    of(Update, func(r *Rec) { r.Key = strings.Repeat("k", 24) }),
		"update, a Key of bytes": of(Update, func(r *Rec) { r.Key = "\x00\xff" }),
		"update, Was nothing":    of(Update, func(r *Rec) { r.Was = true }),
		"update, Old of 1":       of(Update, func(r *Rec) { r.Was, r.Old = true, "v" }),
		"update, Old of 48":      of(Update, func(r *Rec) { r.Was, r.Old = true, strings.Repeat("v", 48) }),
		"update, Prev 2^62":      of(Update, func(r *Rec) { r.Prev = 1 << 62 }),
		"update, 30 Pages":       of(Update, func(r *Rec) { r.Pages = leaves(30) }),
		"update, greatest": of(Update, func(r *Rec) {
			r.Tid = api.Tid{Num: 1 << 40, Node: 63}
			r.Key, r.Was, r.Old, r.Prev = strings.Repeat("k", 24), true, strings.Repeat("v", 48), 1<<62
			for i := range 30 {
				r.Pages = append(r.Pages, fullLeaf(65506+i))
			}
		}),
	}
}

func rightUndos() map[string]Rec {
	return map[string]Rec{
		"undo, Prev 1":         of(Undo, func(r *Rec) { r.Prev = 1 }),
		"undo, Prev 2^62":      of(Undo, func(r *Rec) { r.Prev = 1 << 62 }),
		"undo, page 0":         turns(leaf(0)),
		"undo, page 65535":     turns(leaf(65535)),
		"undo, pages 3, 9, 90": turns(leaf(3), leaf(9), leaf(90)),
		"undo, 30 Pages":       turns(leaves(30)...),
		"undo, each kind of page": turns(
			space.Change{N: 0, P: page.Page{Kind: page.Meta, Root: 1, Next: 3, Size: 4, Idle: 1}},
			space.Change{N: 1, P: page.Page{Kind: page.Inner, Keys: []string{"m"}, Kids: []int{2, 65535}}},
			leaf(2),
			space.Change{N: 3, P: page.Page{Kind: page.Free, Next: 7}},
			space.Change{N: 4, P: page.Page{Kind: page.Leaf}},
		),
	}
}

func rightLists() map[string]Rec {
	return map[string]Rec{
		"prepare, a Read":         prepares("a"),
		"prepare, 100 Reads":      prepares(keys(100, 24)...),
		"prepare, Reads of bytes": prepares("\x00", "\x00\x00", "Z", "a", "a\x00", "\xff"),
		"decide, node 0":          decides(0),
		"decide, node 63":         decides(63),
		"decide, nodes 2, 7, 9":   decides(2, 7, 9),
		"decide, all nodes":       decides(upTo(64)...),
	}
}

func rightChecks() map[string]Rec {
	both := opened(tids(200)...)
	both.Dones = decided(tids(200)...).Dones
	return map[string]Rec{
		"check, an Open":         opens(func(o *Open) {}),
		"check, Last 2^62":       opens(func(o *Open) { o.Last = 1 << 62 }),
		"check, First 2^62":      opens(func(o *Open) { o.First = 1 << 62 }),
		"check, Count 1":         opens(func(o *Open) { o.Count = 1 }),
		"check, Count 2^30":      opens(func(o *Open) { o.Count = 1 << 30 }),
		"check, Ready":           opens(func(o *Open) { o.Ready = true }),
		"check, a Read":          opens(func(o *Open) { o.Reads = []string{"a"} }),
		"check, 100 Reads":       opens(func(o *Open) { o.Reads = keys(100, 24) }),
		"check, an Open's all":   opens(func(o *Open) { *o = Open{five(), 4, 2, 3, true, []string{"a", "b"}} }),
		"check, a Done":          dones(),
		"check, a Done's node":   dones(63),
		"check, a Done's all":    dones(upTo(64)...),
		"check, 200 Opens":       opened(tids(200)...),
		"check, 200 Dones":       decided(tids(200)...),
		"check, 200 of both":     both,
		"check, Opens by number": opened(api.Tid{Num: 2, Node: 9}, api.Tid{Num: 3, Node: 1}),
		"check, Opens by node":   opened(api.Tid{Num: 2, Node: 1}, api.Tid{Num: 2, Node: 9}),
		"check, Dones by number": decided(api.Tid{Num: 2, Node: 9}, api.Tid{Num: 3, Node: 1}),
		"check, Dones by node":   decided(api.Tid{Num: 2, Node: 1}, api.Tid{Num: 2, Node: 9}),
		"check, Tids at edges":   opened(api.Tid{}, api.Tid{Num: 1 << 40, Node: 63}),
		"check, Dones at edges":  decided(api.Tid{}, api.Tid{Num: 1 << 40, Node: 63}),
	}
}

// wrongRecs is records that aren't right, by what is wrong in them.
func wrongRecs() map[string]Rec {
	m := map[string]Rec{"nothing": {}}
	for _, part := range []map[string]Rec{wrongTids(), wrongUpdates(), wrongPages(), wrongLists(), wrongOpens(), wrongDones()} {
		maps.Copy(m, part)
	}
	return m
}

func wrongTids() map[string]Rec {
	m := map[string]Rec{
		"kind 0":               of(0),
		"kind 0 without a Tid": {Kind: 0},
		"kind 9":               of(9),
		"kind 9 without a Tid": {Kind: 9},
		"kind -1":              of(-1),
		"kind of the least":    of(math.MinInt),
		"kind of the greatest": of(math.MaxInt),
		"check with a Tid":     of(Check, func(r *Rec) { r.Tid = five() }),
		"check with a number":  of(Check, func(r *Rec) { r.Tid.Num = 1 }),
		"check with a node":    of(Check, func(r *Rec) { r.Tid.Node = 1 }),
		"check with node -1":   of(Check, func(r *Rec) { r.Tid.Node = -1 }),
	}
	for kind := Update; kind < Check; kind++ {
		name := "kind " + string(rune('0'+kind))
		m[name+", Tid above MaxTid"] = of(kind, func(r *Rec) { r.Tid.Num = 1<<40 + 1 })
		m[name+", Tid of the greatest"] = of(kind, func(r *Rec) { r.Tid.Num = math.MaxUint64 })
		m[name+", node 64"] = of(kind, func(r *Rec) { r.Tid.Node = 64 })
		m[name+", node -1"] = of(kind, func(r *Rec) { r.Tid.Node = -1 })
		m[name+", node of the least"] = of(kind, func(r *Rec) { r.Tid.Node = math.MinInt })
		m[name+", node of the greatest"] = of(kind, func(r *Rec) { r.Tid.Node = math.MaxInt })
	}
	return m
}

func wrongUpdates() map[string]Rec {
	m := map[string]Rec{
		"update without a Key": of(Update, func(r *Rec) { r.Key = "" }),
		"update, a Key of 25":  of(Update, func(r *Rec) { r.Key = strings.Repeat("k", 25) }),
		"update, Old of 49":    of(Update, func(r *Rec) { r.Was, r.Old = true, strings.Repeat("v", 49) }),
		"update, Old, not Was": of(Update, func(r *Rec) { r.Old = "v" }),
	}
	for name, kind := range map[string]int{"update": Update, "undo": Undo} {
		m[name+", Prev above 2^62"] = of(kind, func(r *Rec) { r.Prev = 1<<62 + 1 })
		m[name+", Prev of the greatest"] = of(kind, func(r *Rec) { r.Prev = math.MaxUint64 })
		m[name+", 31 Pages"] = of(kind, func(r *Rec) { r.Pages = leaves(31) })
	}
	return m
}

// wrongPages is of an Undo; what is asked of an Update's pages is the same.
func wrongPages() map[string]Rec {
	m := map[string]Rec{
		"a page twice":            turns(leaf(1), leaf(2), leaf(2)),
		"pages that fall":         turns(leaf(2), leaf(1)),
		"the first page falls":    turns(leaf(5), leaf(1), leaf(2)),
		"page 65536":              turns(leaf(65536)),
		"page 65536, not alone":   turns(leaf(1), leaf(65536)),
		"page -1":                 turns(leaf(-1)),
		"page of the least":       turns(leaf(math.MinInt), leaf(1)),
		"a page of no kind":       turns(space.Change{N: 1}),
		"a page with a wrong key": turns(leaf(1), space.Change{N: 2, P: page.Page{Kind: page.Leaf, Keys: []string{""}, Vals: []string{""}}}),
		"a leaf that has a Root":  turns(space.Change{N: 2, P: page.Page{Kind: page.Leaf, Root: 1}}, leaf(3)),
	}
	for name, r := range maps.Clone(m) {
		r.Kind, r.Key = Update, "k"
		m["update, "+name] = r
	}
	return m
}

func wrongLists() map[string]Rec {
	m := map[string]Rec{}
	for name, reads := range wrongReads() {
		m["prepare, "+name] = prepares(reads...)
	}
	for name, nodes := range wrongNodes() {
		m["decide, "+name] = decides(nodes...)
	}
	return m
}

func wrongReads() map[string][]string {
	return map[string][]string{
		"101 Reads":             keys(101, 3),
		"Reads that fall":       {"b", "a"},
		"the last Read falls":   {"a", "c", "b"},
		"a Read twice":          {"a", "b", "b"},
		"a Read of no byte":     {""},
		"a first one of none":   {"", "a"},
		"a Read of 25":          {strings.Repeat("k", 25)},
		"a Read of 25, at last": {"a", strings.Repeat("k", 25)},
	}
}

func wrongNodes() map[string][]int {
	return map[string][]int{
		"node 64":              {64},
		"node 64, at last":     {0, 63, 64},
		"node -1":              {-1},
		"node -1, not alone":   {-1, 0},
		"node of the least":    {math.MinInt},
		"node of the greatest": {math.MaxInt},
		"nodes that fall":      {5, 0},
		"the last node falls":  {1, 7, 6},
		"a node twice":         {1, 7, 7},
	}
}

func wrongOpens() map[string]Rec {
	m := map[string]Rec{
		"check, Last above 2^62":  opens(func(o *Open) { o.Last = 1<<62 + 1 }),
		"check, First above 2^62": opens(func(o *Open) { o.First = 1<<62 + 1 }),
		"check, Last greatest":    opens(func(o *Open) { o.Last = math.MaxUint64 }),
		"check, First greatest":   opens(func(o *Open) { o.First = math.MaxUint64 }),
		"check, Count -1":         opens(func(o *Open) { o.Count = -1 }),
		"check, Count of least":   opens(func(o *Open) { o.Count = math.MinInt }),
		"check, Count above 2^30": opens(func(o *Open) { o.Count = 1<<30 + 1 }),
		"check, 201 Opens":        opened(tids(201)...),
	}
	for name, list := range wrongOrders() {
		m["check, Opens, "+name] = opened(list...)
	}
	for name, reads := range wrongReads() {
		m["check, "+name] = opens(func(o *Open) { o.Reads = reads })
		m["check, ready, "+name] = opens(func(o *Open) { o.Ready, o.Reads = true, reads })
	}
	return m
}

func wrongDones() map[string]Rec {
	m := map[string]Rec{"check, 201 Dones": decided(tids(201)...)}
	for name, list := range wrongOrders() {
		m["check, Dones, "+name] = decided(list...)
	}
	for name, nodes := range wrongNodes() {
		m["check, "+name] = dones(nodes...)
	}
	return m
}

// wrongOrders is transactions that no Check has so.
func wrongOrders() map[string][]api.Tid {
	return map[string][]api.Tid{
		"the same twice":      {{Num: 2, Node: 1}, {Num: 2, Node: 1}},
		"noughts twice":       {{}, {}},
		"a lesser number":     {{Num: 3, Node: 1}, {Num: 2, Node: 9}},
		"a lesser node":       {{Num: 2, Node: 9}, {Num: 2, Node: 1}},
		"the last is elder":   {{Num: 1}, {Num: 5}, {Num: 4}},
		"above MaxTid":        {{Num: 1<<40 + 1}},
		"above MaxTid, last":  {{Num: 1}, {Num: 1<<40 + 1}},
		"node 64":             {{Num: 1, Node: 64}},
		"node -1":             {{Num: 1, Node: -1}},
		"node -1, then right": {{Num: 1, Node: -1}, {Num: 1}},
	}
}

// P11.1: what a record of each kind has, up to the limits, and nothing else.
func TestRight(t *testing.T) {
	for name, r := range rightRecs() {
		if !r.Right() {
			t.Errorf("%s isn't right", name)
		}
	}
	for name, r := range wrongRecs() {
		if r.Right() {
			t.Errorf("%s is right", name)
		}
	}
}

// P11.1: of each kind each field that it may have, and each that it may not.
func TestRightFields(t *testing.T) {
	fields := map[string]func(*Rec){
		"Key":   func(r *Rec) { r.Key = "a" },
		"Was":   func(r *Rec) { r.Was = true },
		"Old":   func(r *Rec) { r.Old = "v" },
		"both":  func(r *Rec) { r.Was, r.Old = true, "v" },
		"Prev":  func(r *Rec) { r.Prev = 1 },
		"Nodes": func(r *Rec) { r.Nodes = []int{3} },
		"Reads": func(r *Rec) { r.Reads = []string{"a"} },
		"Pages": func(r *Rec) { r.Pages = leaves(1) },
		"Opens": func(r *Rec) { r.Opens = []Open{{Tid: five()}} },
		"Dones": func(r *Rec) { r.Dones = []Done{{Tid: five()}} },
	}
	has := map[int][]string{
		Update:  {"Key", "Was", "both", "Prev", "Pages"},
		Undo:    {"Prev", "Pages"},
		Prepare: {"Reads"},
		Decide:  {"Nodes"},
		Check:   {"Opens", "Dones"},
	}
	for kind := Update; kind <= Check; kind++ {
		for name, turn := range fields {
			r := of(kind, turn)
			if got, want := r.Right(), slices.Contains(has[kind], name); got != want {
				t.Errorf("kind %d with %s: %v", kind, name, got)
			}
			if b, err := Encode(r); (err == api.ErrArg) == r.Right() || (len(b) > 0) != r.Right() {
				t.Errorf("kind %d with %s: % x %v", kind, name, b, err)
			}
		}
	}
}

// P11.1: a field that a record may not have counts as well when another one is right: two of each.
func TestRightTwo(t *testing.T) {
	for name, r := range map[string]Rec{
		"update with Reads":  of(Update, func(r *Rec) { r.Pages, r.Reads = leaves(2), []string{"a"} }),
		"update with Nodes":  of(Update, func(r *Rec) { r.Prev, r.Nodes = 3, []int{0} }),
		"undo with Was":      of(Undo, func(r *Rec) { r.Prev, r.Was = 3, true }),
		"prepare with Nodes": of(Prepare, func(r *Rec) { r.Reads, r.Nodes = []string{"a"}, []int{1} }),
		"decide with Reads":  of(Decide, func(r *Rec) { r.Reads, r.Nodes = []string{"a"}, []int{1} }),
		"check with Nodes":   of(Check, func(r *Rec) { r.Opens, r.Nodes = []Open{{Tid: five()}}, []int{1} }),
		"check with Pages":   of(Check, func(r *Rec) { r.Dones, r.Pages = []Done{{Tid: five()}}, leaves(1) }),
		"one wrong Open":     {Kind: Check, Opens: []Open{{Tid: api.Tid{Num: 1}}, {Tid: api.Tid{Num: 2}, Count: -1}, {Tid: api.Tid{Num: 3}}}},
		"one wrong Done":     {Kind: Check, Opens: []Open{{}}, Dones: []Done{{}, {Tid: api.Tid{Num: 2}, Nodes: []int{1, 1}}}},
	} {
		if r.Right() {
			t.Errorf("%s is right", name)
		}
	}
}
