package tree

import (
	"fmt"
	"maps"
	"math/rand"
	"slices"
	"testing"

	"dockmaster/api"
	"dockmaster/page"
)

// checks holds what Check answers against what is expected; beside an error it is noughts.
func checks(t *testing.T, name string, s Pages, count, deep int, want api.Errno) {
	t.Helper()
	if n, d, err := Check(s); n != count || d != deep || err != want {
		t.Errorf("%s: Check %d %d %v, want %d %d %v", name, n, d, err, count, deep, want)
	}
}

// P10.3: Check of no root, of one page, of several.
func TestCheck(t *testing.T) {
	root, deep := threeDeep()
	checks(t, "no root", newDesk(0, leaves(1, "abc")), 0, 0, api.OK)
	checks(t, "an empty leaf", newDesk(1, pages{1: {Kind: page.Leaf}}), 1, 1, api.OK)
	checks(t, "a leaf of one key", newDesk(1, leaves(1, "a")), 1, 1, api.OK)
	checks(t, "a full leaf", newDesk(1, leaves(1, "abcdef")), 1, 1, api.OK)
	checks(t, "two leaves", newDesk(3, with(leaves(1, "abc", "def"), pages{3: inner("d", 1, 2)})), 3, 2, api.OK)
	checks(t, "a key between that is in no leaf", newDesk(3, with(leaves(1, "abc", "efg"), pages{3: inner("d", 1, 2)})), 3, 2, api.OK)
	checks(t, "eight leaves", newDesk(9, wide()), 9, 2, api.OK)
	checks(t, "three deep", newDesk(root, deep), 11, 3, api.OK)
	checks(t, "pages beside it", newDesk(root, with(deep, pages{20: {Kind: page.Free}, 21: leaf("a")})), 11, 3, api.OK)
	d := newDesk(root, deep)
	Check(d)
	d.holds(t, root, deep)
}

// P10.3: Check of pages that aren't a tree.
func TestCheckBad(t *testing.T) {
	root, deep := threeDeep()
	free, meta := page.Page{Kind: page.Free}, page.Page{Kind: page.Meta, Root: 1, Size: 9}
	tooLong := leaf("abc")
	tooLong.Vals[1] = string(make([]byte, api.MaxVal+1))
	for name, over := range map[string]pages{
		"the root is free":                 {11: free},
		"the root is a meta page":          {11: meta},
		"the root has no kind":             {11: {}},
		"the root has one Kid":             {11: inner("", 9)},
		"a free page":                      {9: free},
		"a free page as a leaf":            {4: free},
		"a meta page as a leaf":            {5: meta},
		"no kind":                          {3: {}},
		"another kind":                     {3: {Kind: 9}},
		"a Kid 0":                          {9: inner("dgj", 0, 2, 3, 4)},
		"a Kid 0 that can be loaded":       {0: leaf("abc"), 9: inner("dgj", 0, 2, 3, 4)},
		"a leaf too empty, first":          {1: leaf("ab")},
		"a leaf too empty, last":           {8: leaf("wx")},
		"an empty leaf":                    {6: {Kind: page.Leaf}},
		"a leaf too full":                  {8: leaf("vwxyz{|")},
		"an inner page too empty":          {9: inner("dg", 1, 2, 3)},
		"an inner page too full":           {10: inner("psvwxyz{", 5, 6, 7, 8, 8, 8, 8, 8, 8)},
		"leaves of unlike depth, less":     {11: inner("dm", 1, 2, 10)},
		"leaves of unlike depth, more":     {9: inner("dgj", 1, 2, 3, 12), 12: inner("nqt", 13, 14, 15, 16)},
		"unlike depth behind the first":    {11: inner("my", 9, 10, 12), 12: leaf("yz{")},
		"keys out of their order":          {2: leaf("edf")},
		"a key twice in a leaf":            {2: leaf("dde")},
		"a key twice in two leaves":        {2: leaf("cef")},
		"a key behind its place":           {2: leaf("deg")},
		"a key ahead of its place":         {2: leaf("bdf")},
		"a key behind an upper page's":     {4: leaf("jkm")},
		"a key ahead of an upper page's":   {5: leaf("lno")},
		"keys of an inner page unordered":  {9: inner("gdj", 1, 2, 3, 4)},
		"keys of an inner page too great":  {9: inner("djm", 1, 2, 3, 4), 3: leaf("ghi"), 4: leaf("mno")},
		"keys of an inner page too less":   {10: inner("msv", 5, 6, 7, 8)},
		"a leaf twice":                     {9: inner("dgj", 1, 1, 3, 4)},
		"an inner page twice":              {11: inner("m", 9, 9)},
		"to the root again":                {9: inner("dgj", 1, 2, 3, 11)},
		"to the root again, first":         {9: inner("dgj", 11, 2, 3, 4)},
		"the root is its own Kid":          {11: inner("m", 11, 11)},
		"a key too long":                   {1: {Kind: page.Leaf, Keys: []string{"a", "b", "c" + string(make([]byte, api.MaxKey))}, Vals: []string{"", "", ""}}},
		"a key of no byte":                 {1: {Kind: page.Leaf, Keys: []string{"", "b", "c"}, Vals: []string{"", "", ""}}},
		"a value too long":                 {1: tooLong},
		"Vals too few":                     {1: {Kind: page.Leaf, Keys: []string{"a", "b", "c"}, Vals: []string{"", ""}}},
		"Kids too few":                     {9: inner("bdgj", 1, 2, 3, 4)},
		"Kids too many":                    {9: inner("dg", 1, 2, 3, 4)},
		"a leaf with a Root":               {1: {Kind: page.Leaf, Keys: []string{"a", "b", "c"}, Vals: []string{"", "", ""}, Root: 1}},
		"a Kid that can't be":              {9: inner("dgj", 1, 2, 3, page.MaxPage)},
		"a Kid below 0":                    {9: inner("dgj", 1, 2, -3, 4)},
		"a root of one leaf, out of order": {11: leaf("ba")},
	} {
		checks(t, name, newDesk(root, with(deep, over)), 0, 0, api.ErrBad)
	}
}

// P10.3: Load's error, of each page; what else is wrong comes ahead of it.
func TestCheckOfPagesThatCannotBeLoaded(t *testing.T) {
	root, deep := threeDeep()
	for n := range deep {
		for _, err := range []api.Errno{api.ErrArg, api.ErrDown, api.ErrTorn, api.ErrBad} {
			d := newDesk(root, deep)
			d.fails[fmt.Sprint("Load ", n)] = err
			checks(t, fmt.Sprint("page ", n), d, 0, 0, err)
		}
		d := newDesk(root, with(deep, leaves(3, "gh"), leaves(6, "pq")))
		d.fails[fmt.Sprint("Load ", n)] = api.ErrTorn
		want := api.ErrBad
		if n == root {
			want = api.ErrTorn
		}
		checks(t, fmt.Sprint("page ", n, " beside others too empty"), d, 0, 0, want)
	}
	d := newDesk(root, deep)
	d.fails["Load 2"], d.fails["Load 3"], d.fails["Load 10"] = api.ErrTorn, api.ErrDown, api.ErrBad
	checks(t, "the first error", d, 0, 0, api.ErrTorn)
	d = newDesk(root, with(deep, pages{10: inner("msv", 5, 6, 7, 8)}))
	d.fails["Load 5"] = api.ErrTorn
	checks(t, "a page that could have no key", d, 0, 0, api.ErrBad)
	d = newDesk(root, with(deep, pages{9: inner("dgj", 1, 2, 77, 4)}))
	checks(t, "a page that isn't there", d, 0, 0, api.ErrArg)
	for _, n := range []int{-1, 12, page.MaxPage} {
		d.root = n
		checks(t, "a root that isn't there", d, 0, 0, api.ErrArg)
	}
}

// P10.3: what is deeper than 12 pages isn't a tree, even if all that can be loaded is as a tree's.
func TestCheckTooDeep(t *testing.T) {
	for count := 2; count <= 14; count++ {
		all := pages{count: page.Page{Kind: page.Leaf, Keys: []string{"!", "\"", "#"}, Vals: []string{"", "", ""}}}
		for n := 1; n < count; n++ {
			k := string([]byte{byte('z' - 3*n)})
			all[n] = page.Page{Kind: page.Inner, Keys: []string{k, k + "1", k + "2"}, Kids: []int{n + 1, 97, 98, 99}}
		}
		want := api.ErrArg
		if count > MostDeep {
			want = api.ErrBad
		}
		checks(t, fmt.Sprint(count, " pages"), newDesk(1, all), 0, 0, want)
	}
}

// P10.3, rule 1: pages that lead to each other in many ways, with nothing at their end.
func TestCheckEnds(t *testing.T) {
	all := pages{}
	for n := 1; n < MostDeep; n++ {
		all[n] = page.Page{Kind: page.Inner, Keys: []string{"a", "b", "c", "d", "e", "f", "g"}, Kids: slices.Repeat([]int{n + 1}, page.MaxKids)}
	}
	d := newDesk(1, all)
	checks(t, "many ways", d, 0, 0, api.ErrBad)
	if len(d.calls) > 1000 {
		t.Error("loads", len(d.calls))
	}
}

// P10.3: Check held against what is seen by going through the pages, of trees with a fault here or there, or none.
func TestCheckAgainstSeen(t *testing.T) {
	r := rand.New(rand.NewSource(1))
	bad := 0
	for range 4000 {
		root, all := threeDeep()
		if r.Intn(2) == 0 {
			root, all = 15, full()
		}
		for range 1 + r.Intn(2) {
			turnPage(r, all)
		}
		d := newDesk(root, all)
		f, ok := seen(d, root, 1)
		want := api.OK
		if !ok {
			f, want = found{}, api.ErrBad
			bad++
		}
		checks(t, fmt.Sprint(all), d, f.pages, f.deep, want)
		if t.Failed() {
			return
		}
	}
	if bad < 500 || bad > 3500 {
		t.Error("bad ones:", bad)
	}
}

// turnPage lets a page have another letter, one less, another number beneath it, or the place of another page.
func turnPage(r *rand.Rand, all pages) {
	numbers := slices.Sorted(maps.Keys(all))
	n := numbers[r.Intn(len(numbers))]
	p := all[n].Clone()
	if len(p.Keys) == 0 {
		return
	}
	switch i := r.Intn(len(p.Keys)); r.Intn(4) {
	case 0:
		p.Keys[i] = string([]byte{p.Keys[i][0] + byte(r.Intn(3)) - 1})
	case 1:
		if len(p.Kids) > 0 {
			p.Kids = slices.Delete(p.Kids, i, i+1)
		} else {
			p.Vals = slices.Delete(p.Vals, i, i+1)
		}
		p.Keys = slices.Delete(p.Keys, i, i+1)
	case 2:
		if len(p.Kids) > 0 {
			p.Kids[i] = numbers[r.Intn(len(numbers))]
		}
	default:
		p.Keys[i] += "x"
	}
	all[n] = p
}
