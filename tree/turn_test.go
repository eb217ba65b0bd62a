package tree

import (
	"fmt"
	"strings"
	"testing"

	"dockmaster/api"
	"dockmaster/key"
	"dockmaster/page"
)

// turned is a tree, a key, and the tree behind a Put or a Drop of it.
type turned struct {
	name string
	root int
	was  pages
	key  string
	then int
	is   pages
}

// wide is a root, page 9, with eight leaves of three keys.
func wide() pages {
	return with(leaves(1, "ACE", "GIK", "MOQ", "SUW", "ace", "gik", "moq", "suw"),
		pages{9: inner("GMSagms", 1, 2, 3, 4, 5, 6, 7, 8)})
}

// full is a root, page 15, with an inner page that has as many leaves as may be, of which the first is full, and another one.
func full() pages {
	return with(leaves(1, "135679", "ACE", "GIK", "MOQ", "SUW", "ace", "gik", "moq"), leaves(11, "stu", "vwx", "yz{", "|}~"), pages{
		9:  inner("AGMSagm", 1, 2, 3, 4, 5, 6, 7, 8),
		10: inner("vy|", 11, 12, 13, 14),
		15: inner("s", 9, 10),
	})
}

func putTable() []turned {
	root, deep := threeDeep()
	return []turned{
		{"a leaf with room, first", 1, leaves(1, "bcdef"), "a", 1, leaves(1, "abcdef")},
		{"a leaf with room, last", 1, leaves(1, "abcde"), "f", 1, leaves(1, "abcdef")},
		{"the root, a leaf, first", 1, leaves(1, "bcdefg"), "a", 3, with(leaves(1, "abc", "defg"), pages{3: inner("d", 1, 2)})},
		{"the root, a leaf, middle", 1, leaves(1, "abcefg"), "d", 3, with(leaves(1, "abc", "defg"), pages{3: inner("d", 1, 2)})},
		{"the root, a leaf, last", 1, leaves(1, "abcdef"), "g", 3, with(leaves(1, "abc", "defg"), pages{3: inner("d", 1, 2)})},
		{"the first leaf", 4, with(leaves(1, "abcdef", "hij", "klm"), pages{4: inner("hk", 1, 2, 3)}), "g",
			4, with(leaves(1, "abc", "hij", "klm"), leaves(5, "defg"), pages{4: inner("dhk", 1, 5, 2, 3)})},
		{"a leaf in the middle", 4, with(leaves(1, "abc", "ghijkl", "uvw"), pages{4: inner("gu", 1, 2, 3)}), "t",
			4, with(leaves(1, "abc", "ghi", "uvw"), leaves(5, "jklt"), pages{4: inner("gju", 1, 2, 5, 3)})},
		{"the last leaf, by the key between", 4, with(leaves(1, "abc", "ghi", "vwxyz{"), pages{4: inner("gu", 1, 2, 3)}), "u",
			4, with(leaves(1, "abc", "ghi", "uvw"), leaves(5, "xyz{"), pages{4: inner("gux", 1, 2, 3, 5)})},
		{"a leaf with room beneath others", root, deep, "y", root, with(deep, leaves(8, "vwxy"))},
		{"the root, an inner page", 9, with(wide(), leaves(1, "ABCDEF")), "0", 12,
			with(wide(), leaves(1, "0AB"), leaves(10, "CDEF"), pages{9: inner("CGM", 1, 10, 2, 3), 11: inner("agms", 4, 5, 6, 7, 8), 12: inner("S", 9, 11)})},
		{"the root, an inner page, at its end", 9, with(wide(), leaves(8, "stuvwx")), "y", 12,
			with(wide(), leaves(8, "stu"), leaves(10, "vwxy"), pages{9: inner("GMS", 1, 2, 3, 4), 11: inner("gmsv", 5, 6, 7, 8, 10), 12: inner("a", 9, 11)})},
		{"an inner page", 15, full(), "8", 15,
			with(full(), leaves(1, "135"), leaves(16, "6789"), pages{9: inner("6AG", 1, 16, 2, 3), 17: inner("Sagm", 4, 5, 6, 7, 8), 15: inner("Ms", 9, 17, 10)})},
	}
}

// leafDrops are those that turn leaves, and inner pages only as they stand above them.
func leafDrops() []turned {
	return []turned{
		{"a leaf with enough", 3, with(leaves(1, "abcd", "efg"), pages{3: inner("e", 1, 2)}), "a",
			3, with(leaves(1, "bcd", "efg"), pages{3: inner("e", 1, 2)})},
		{"the key between", 3, with(leaves(1, "abc", "defg"), pages{3: inner("d", 1, 2)}), "d",
			3, with(leaves(1, "abc", "efg"), pages{3: inner("d", 1, 2)})},
		{"a root that is a leaf", 1, leaves(1, "ab"), "a", 1, leaves(1, "b")},
		{"from the left, as two", 3, with(leaves(1, "abcde", "fgh"), pages{3: inner("f", 1, 2)}), "g",
			3, with(leaves(1, "abc", "defh"), pages{3: inner("d", 1, 2)})},
		{"from the left, as two, of eight", 3, with(leaves(1, "abcdef", "ghi"), pages{3: inner("g", 1, 2)}), "g",
			3, with(leaves(1, "abcd", "efhi"), pages{3: inner("e", 1, 2)})},
		{"from the right, as two", 3, with(leaves(1, "abc", "defgh"), pages{3: inner("d", 1, 2)}), "a",
			3, with(leaves(1, "bcd", "efgh"), pages{3: inner("e", 1, 2)})},
		{"of three the left one, as two", 4, with(leaves(1, "abcde", "fgh", "ijklmn"), pages{4: inner("fi", 1, 2, 3)}), "h",
			4, with(leaves(1, "abc", "defg", "ijklmn"), pages{4: inner("di", 1, 2, 3)})},
		{"of three the left one, as one", 4, with(leaves(1, "abcd", "fgh", "ijklmn"), pages{4: inner("fi", 1, 2, 3)}), "f",
			4, with(leaves(1, "abcdgh"), leaves(3, "ijklmn"), pages{4: inner("i", 1, 3)})},
		{"the last, as one", 4, with(leaves(1, "abcd", "fgh", "ijk"), pages{4: inner("fi", 1, 2, 3)}), "k",
			4, with(leaves(1, "abcd", "fghij"), pages{4: inner("f", 1, 2)})},
		{"the last, as two", 4, with(leaves(1, "abcd", "efghi", "jkl"), pages{4: inner("ej", 1, 2, 3)}), "k",
			4, with(leaves(1, "abcd", "efg", "hijl"), pages{4: inner("eh", 1, 2, 3)})},
		{"the first, as one", 4, with(leaves(1, "abc", "fgh", "ijk"), pages{4: inner("fi", 1, 2, 3)}), "b",
			4, with(leaves(1, "acfgh"), leaves(3, "ijk"), pages{4: inner("i", 1, 3)})},
		{"the root is let go, from the left", 3, with(leaves(1, "abc", "def"), pages{3: inner("d", 1, 2)}), "e",
			1, leaves(1, "abcdf")},
		{"the root is let go, from the right", 3, with(leaves(1, "abc", "defg"), pages{3: inner("d", 1, 2)}), "c",
			1, leaves(1, "abdefg")},
	}
}

// innerDrops are those that fill inner pages.
func innerDrops() []turned {
	root, deep := threeDeep()
	more := with(leaves(1, "ACE", "GIK", "MOQ", "SUW"), leaves(11, "ace", "gik", "moq", "suw", "xyz", "{|}"), pages{
		9:  inner("GMS", 1, 2, 3, 4),
		10: inner("gmsx{", 11, 12, 13, 14, 15, 16),
		20: inner("a", 9, 10),
	})
	less := with(leaves(1, "ACE", "GIK", "MOQ", "SUW", "ace", "gik"), leaves(11, "moq", "suw", "xyz", "{|}"), pages{
		9:  inner("GMSag", 1, 2, 3, 4, 5, 6),
		10: inner("sx{", 11, 12, 13, 14),
		20: inner("m", 9, 10),
	})
	three := with(leaves(1, "012", "345", "678", "9AB", "CDE", "FGH", "IJK", "LMN", "OPQ", "RST", "UVW", "XYZ"), pages{
		13: inner("369", 1, 2, 3, 4),
		14: inner("FIL", 5, 6, 7, 8),
		15: inner("RUX", 9, 10, 11, 12),
		16: inner("CO", 13, 14, 15),
	})
	return []turned{
		{"an inner page from the right, as two", 20, more, "C", 20,
			with(without(more, 2), leaves(1, "AEGIK"), pages{9: inner("MSa", 1, 3, 4, 11), 10: inner("msx{", 12, 13, 14, 15, 16), 20: inner("g", 9, 10)})},
		{"an inner page from the left, as two", 20, less, "}", 20,
			with(without(less, 14), leaves(13, "xyz{|"), pages{9: inner("GMS", 1, 2, 3, 4), 10: inner("gmsx", 5, 6, 11, 12, 13), 20: inner("a", 9, 10)})},
		{"an inner page from the right, as one, and the root is let go", root, deep, "a", 9,
			with(without(deep, 2, 10, 11), leaves(1, "bcdef"), pages{9: inner("gjmpsv", 1, 3, 4, 5, 6, 7, 8)})},
		{"an inner page from the left, as one, and the root is let go", root, deep, "p", 9,
			with(without(deep, 6, 10, 11), leaves(5, "mnoqr"), pages{9: inner("dgjmsv", 1, 2, 3, 4, 5, 7, 8)})},
		{"an inner page from the left, as one, beneath a root that stays", 16, three, "N", 16,
			with(without(three, 8, 14), leaves(7, "IJKLM"), pages{13: inner("369CFI", 1, 2, 3, 4, 5, 6, 7), 16: inner("O", 13, 15)})},
	}
}

func dropTable() []turned {
	return append(leafDrops(), innerDrops()...)
}

func without(all pages, gone ...int) pages {
	out := with(all)
	for _, n := range gone {
		delete(out, n)
	}
	return out
}

// keysOf is all that the leaves among pages have.
func keysOf(all pages) key.Map {
	m := key.Map{}
	for _, p := range all {
		if p.Kind == page.Leaf {
			for i, k := range p.Keys {
				m = m.With(k, p.Vals[i])
			}
		}
	}
	return m
}

// P10.2, P10.4: Put: a page with room, a split of a leaf, an inner page, the root.
func TestPutPages(t *testing.T) {
	for _, c := range putTable() {
		t.Run(c.name, func(t *testing.T) {
			d, m := newDesk(c.root, c.was), keysOf(c.was)
			sound(t, d, m)
			getsNone(t, d, c.key, api.OK)
			puts(t, d, c.key, valueOf(c.key), api.OK)
			d.holds(t, c.then, c.is)
			sound(t, d, m.With(c.key, valueOf(c.key)))
			gets(t, d, c.key, valueOf(c.key))
		})
	}
}

// P10.2, P10.4: Drop: a page with enough, one that is filled from its neighbour, as two and as one, a root that is let go.
func TestDropPages(t *testing.T) {
	for _, c := range dropTable() {
		t.Run(c.name, func(t *testing.T) {
			d, m := newDesk(c.root, c.was), keysOf(c.was)
			sound(t, d, m)
			drops(t, d, c.key, true, api.OK)
			d.holds(t, c.then, c.is)
			sound(t, d, m.Without(c.key))
			getsNone(t, d, c.key, api.OK)
			if freed := len(c.was) - len(c.is); len(d.free) != freed {
				t.Error("free", d.free, "want", freed)
			}
		})
	}
}

// called is what a Put, or a Drop, of one of these calls, and its answer.
func called(c turned, put bool, d *desk) (string, api.Errno) {
	if put {
		err := Put(d, c.key, valueOf(c.key))
		return strings.Join(d.calls, ", "), err
	}
	was, err := Drop(d, c.key)
	if was != (err == api.OK) {
		return "the answer isn't right", err
	}
	return strings.Join(d.calls, ", "), err
}

// P10.2: in which order pages are had, stand in their places, and are let go.
func TestOrderOfCalls(t *testing.T) {
	order := map[string]string{
		"a leaf with room, first":            "Load 1, Save 1",
		"the root, a leaf, last":             "Load 1, Get, Save 1, Save 2, Get, Save 3, SetRoot 3",
		"a leaf in the middle":               "Load 4, Load 2, Get, Save 2, Save 5, Save 4",
		"the root, an inner page":            "Load 9, Load 1, Get, Save 1, Save 10, Get, Save 9, Save 11, Get, Save 12, SetRoot 12",
		"an inner page":                      "Load 15, Load 9, Load 1, Get, Save 1, Save 16, Get, Save 9, Save 17, Save 15",
		"a leaf with enough":                 "Load 3, Load 1, Save 1",
		"from the left, as two":              "Load 3, Load 2, Load 1, Save 1, Save 2, Save 3",
		"from the right, as two":             "Load 3, Load 1, Load 2, Save 1, Save 2, Save 3",
		"of three the left one, as one":      "Load 4, Load 2, Load 1, Save 1, Free 2, Save 4",
		"the first, as one":                  "Load 4, Load 1, Load 2, Save 1, Free 2, Save 4",
		"the root is let go, from the left":  "Load 3, Load 2, Load 1, Save 1, Free 2, Free 3, SetRoot 1",
		"the root is let go, from the right": "Load 3, Load 1, Load 2, Save 1, Free 2, Free 3, SetRoot 1",
		"an inner page from the right, as one, and the root is let go": "Load 11, Load 9, Load 1, Load 2, Save 1, Free 2, Load 10, Save 9, Free 10, Free 11, SetRoot 9",
	}
	for put, table := range map[bool][]turned{true: putTable(), false: dropTable()} {
		for _, c := range table {
			want, asked := order[c.name]
			got, err := called(c, put, newDesk(c.root, c.was))
			if asked && (got != want || err != api.OK) {
				t.Errorf("%s: %s %v\nwant %s", c.name, got, err, want)
			}
			delete(order, c.name)
		}
	}
	if len(order) > 0 {
		t.Error("no such trees:", order)
	}
}

// P10.2: the first error of any call of the pages is the answer, and nothing is called behind it.
func TestErrorOfEachCall(t *testing.T) {
	failed := map[string]int{}
	for put, table := range map[bool][]turned{true: append(putTable(), turned{name: "no root", key: "a"}), false: dropTable()} {
		for _, c := range table {
			whole, _ := called(c, put, newDesk(c.root, c.was))
			calls := strings.Split(whole, ", ")
			for i, call := range calls {
				for _, err := range []api.Errno{api.ErrArg, api.ErrDown, api.ErrTorn, api.ErrFull, api.ErrBad} {
					d := newDesk(c.root, c.was)
					d.last, d.err = i+1, err
					got, answer := called(c, put, d)
					if want := strings.Join(calls[:i+1], ", "); got != want || answer != err {
						t.Errorf("%s: %s fails with %v: answered %v, called %s", c.name, call, err, answer, got)
					}
					d.unturned(t)
				}
				failed[fmt.Sprint(put, strings.Fields(call)[0])]++
			}
		}
	}
	for _, what := range []string{"trueLoad", "trueSave", "trueGet", "trueSetRoot", "falseLoad", "falseSave", "falseFree", "falseSetRoot"} {
		if failed[what] == 0 {
			t.Error("never failed:", what)
		}
	}
}

// P10.2, and rule 1: neighbours that can't be those of a tree end a Drop.
func TestWrongNeighbours(t *testing.T) {
	for name, wrong := range map[string]page.Page{
		"free":      {Kind: page.Free},
		"meta":      {Kind: page.Meta, Size: 3},
		"inner":     inner("e", 1, 2),
		"no kind":   {},
		"no Vals":   {Kind: page.Leaf, Keys: []string{"e"}},
		"many Vals": {Kind: page.Leaf, Vals: []string{"e"}},
	} {
		d := newDesk(3, pages{1: wrong, 2: leaf("fgh"), 3: inner("f", 1, 2)})
		drops(t, d, "f", false, api.ErrBad)
		d.holds(t, 3, with(pages{2: leaf("fgh"), 3: inner("f", 1, 2)}, notFree(1, wrong)))
		d = newDesk(3, pages{1: leaf("abc"), 2: wrong, 3: inner("d", 1, 2)})
		drops(t, d, "b", false, api.ErrBad)
		if err := Put(d, "b", "x"); err != api.OK {
			t.Error(name, "beside the way", err)
		}
	}
	for _, n := range []int{0, 7, -1} {
		d := newDesk(3, pages{2: leaf("fgh"), 3: inner("f", n, 2)})
		drops(t, d, "f", false, api.ErrArg)
	}
	d := newDesk(3, pages{0: leaf("abc"), 2: leaf("fgh"), 3: inner("f", 0, 2)})
	drops(t, d, "f", false, api.ErrBad)
	d = newDesk(3, pages{2: leaf("fgh"), 3: {Kind: page.Inner, Kids: []int{2}}})
	drops(t, d, "f", false, api.ErrBad)
	d.holds(t, 3, pages{2: leaf("fgh"), 3: {Kind: page.Inner, Kids: []int{2}}})
}

// notFree is a page under its number, unless it is a free one.
func notFree(n int, p page.Page) pages {
	if p.Kind == page.Free {
		return nil
	}
	return pages{n: p}
}
