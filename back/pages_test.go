package back

import (
	"math"
	"strings"
	"testing"

	"dockmaster/api"
	"dockmaster/page"
	"dockmaster/rec"
	"dockmaster/space"
)

// P13.1: of each page the last image, with its record's number; by their numbers.
func TestPages(t *testing.T) {
	up := func(lsn uint64, pages ...space.Change) Item { return with(item(lsn, rec.Update, five()), pages...) }
	un := func(lsn uint64, pages ...space.Change) Item { return with(item(lsn, rec.Undo, five()), pages...) }
	for _, c := range []struct {
		name string
		all  []Item
		want []string
	}{
		{"none", []Item{up(2), un(3)}, nil},
		{"one", []Item{up(2, free(7, 1))}, []string{freeText(7, 1, 2)}},
		{"at the number 0", []Item{up(0, free(0, 1))}, []string{freeText(0, 1, 0)}},
		{"of an Undo", []Item{un(2, free(7, 1))}, []string{freeText(7, 1, 2)}},
		{"of one record", []Item{up(2, free(0, 1), free(3, 2), free(65535, 3))}, []string{freeText(0, 1, 2), freeText(3, 2, 2), freeText(65535, 3, 2)}},
		{"of one record, falling", []Item{up(2, free(256, 1), free(10, 2), free(9, 3))}, []string{freeText(9, 3, 2), freeText(10, 2, 2), freeText(256, 1, 2)}},
		{"of several, falling", []Item{up(2, free(256, 1)), up(3, free(10, 2)), un(4, free(9, 3))}, []string{freeText(9, 3, 4), freeText(10, 2, 3), freeText(256, 1, 2)}},
		{"twice in one record", []Item{up(2, free(7, 2), free(7, 1))}, []string{freeText(7, 1, 2)}},
		{"twice, others between", []Item{up(2, free(7, 2), free(4, 4), free(8, 3), free(7, 1))}, []string{freeText(4, 4, 2), freeText(7, 1, 2), freeText(8, 3, 2)}},
		{"in two records", []Item{up(2, free(7, 2)), up(3, free(7, 1))}, []string{freeText(7, 1, 3)}},
		{"an Undo behind it", []Item{up(2, free(7, 2)), un(3, free(7, 1))}, []string{freeText(7, 1, 3)}},
		{"an Update behind an Undo", []Item{un(2, free(7, 2)), up(3, free(7, 1))}, []string{freeText(7, 1, 3)}},
		{"the same image twice", []Item{up(2, free(7, 1)), up(3, free(7, 1))}, []string{freeText(7, 1, 3)}},
		{"another one between", []Item{up(2, free(7, 2)), up(3, free(6, 1)), up(4)}, []string{freeText(6, 1, 3), freeText(7, 2, 2)}},
		{"in one twice, then in another", []Item{up(2, free(7, 2), free(7, 1)), up(3, free(7, 3), free(7, 4))}, []string{freeText(7, 4, 3)}},
		{"in order, not by number", []Item{up(9, free(7, 2)), up(3, free(7, 1))}, []string{freeText(7, 1, 3)}},
		{"the greatest number", []Item{up(math.MaxUint64, free(7, 2))}, []string{freeText(7, 2, math.MaxUint64)}},
		{"numbers of no page", []Item{up(2, free(math.MaxInt, 1), free(-1, 2), free(math.MinInt, 3), free(65536, 4))}, []string{freeText(math.MinInt, 3, 2), freeText(-1, 2, 2), freeText(65536, 4, 2), freeText(math.MaxInt, 1, 2)}},
	} {
		p := plan(t, append([]Item{check(1)}, c.all...)...)
		is(t, c.name, pagesText(p), strings.Join(c.want, " "))
	}
}

// P13.1: of transactions that are open, prepared, committed, given up; of any record behind the Check.
func TestPagesOfAll(t *testing.T) {
	all, want := []Item{check(0)}, []string{}
	for i, ends := range [][]int{{}, {rec.Prepare}, {rec.Prepare, rec.Commit}, {rec.Undo, rec.Abort}, {rec.Abort}, {rec.Decide, rec.End}} {
		tid := api.Tid{Num: 9 - uint64(i)}
		lsn := uint64(10 * (i + 1))
		all = append(all, with(item(lsn, rec.Update, tid), free(i, 1)))
		want = append(want, freeText(i, 1, lsn))
		for _, kind := range ends {
			lsn++
			all = append(all, item(lsn, kind, tid))
		}
	}
	is(t, "ended in all ways", pagesText(plan(t, all...)), strings.Join(want, " "))

	// A right record of these kinds has no Pages: the words ask for those of each record.
	for _, kind := range []int{rec.Prepare, rec.Commit, rec.Abort, rec.Decide, rec.End, 0, 9} {
		p := plan(t, check(0), with(item(2, kind, five()), free(7, 1)))
		is(t, "of another kind", pagesText(p), freeText(7, 1, 2))
	}
}

// P13.1: a page of any kind comes as it is, also one that isn't right.
func TestPagesWhole(t *testing.T) {
	for _, x := range []page.Page{
		{},
		space.First(),
		{Kind: page.Meta, Root: 2, Next: 3, Size: 9, Idle: 4},
		{Kind: page.Leaf},
		{Kind: page.Leaf, Keys: []string{"a", "b"}, Vals: []string{"", "x"}},
		{Kind: page.Inner, Keys: []string{"m"}, Kids: []int{4, 5}},
		{Kind: page.Free, Next: 6},
		{Kind: -1, Keys: []string{"b", "a", ""}, Vals: []string{"v"}, Kids: []int{-1}, Root: -2, Next: -3, Size: -4, Idle: -5},
	} {
		p := plan(t, check(0), with(item(5, rec.Update, five()), space.Change{N: 3, P: x}))
		if len(p.Pages) != 1 || !p.Pages[0].P.Same(x) || p.Pages[0].N != 3 || p.Pages[0].LSN != 5 {
			t.Error(pagesText(p), "want", pageText(3, x))
		}
	}
}
