package node

import (
	"maps"
	"math/rand"
	"slices"
	"strings"
	"testing"

	"dockmaster/page"
)

// leaf is a leaf with keys, each a byte of the text, and the same in capitals under them.
func leaf(keys string) page.Page {
	p := page.Page{Kind: page.Leaf}
	for _, k := range strings.Split(keys, "") {
		p.Keys = append(p.Keys, k)
		p.Vals = append(p.Vals, strings.ToUpper(k))
	}
	return p
}

// inner is an inner page with keys, each a byte of the text, and kids.
func inner(keys string, kids ...int) page.Page {
	return page.Page{Kind: page.Inner, Keys: strings.Split(keys, ""), Kids: kids}
}

// otherPages is pages that are neither leaves nor inner ones.
func otherPages() []page.Page {
	return []page.Page{{}, {Kind: page.Meta, Root: 1, Next: 2, Size: 3, Idle: 1}, {Kind: page.Free, Next: 7}, {Kind: 5}, {Kind: -1}}
}

// wrongPages is pages whose lists don't fit each other, or fall: nothing is promised of them but that no call panics.
func wrongPages() []page.Page {
	return append(otherPages(),
		page.Page{Kind: page.Leaf, Keys: []string{"a", "b", "c"}},
		page.Page{Kind: page.Leaf, Keys: []string{"a", "b", "c"}, Vals: []string{"A"}},
		page.Page{Kind: page.Leaf, Vals: []string{"A", "B"}},
		page.Page{Kind: page.Leaf, Keys: []string{"c", "b", "a"}, Vals: []string{"", "", ""}},
		page.Page{Kind: page.Inner},
		page.Page{Kind: page.Inner, Kids: []int{1}},
		page.Page{Kind: page.Inner, Keys: []string{"a"}, Kids: []int{1}},
		page.Page{Kind: page.Inner, Keys: []string{"a", "b", "c"}},
		page.Page{Kind: page.Inner, Kids: []int{1, 2, 3, 4, 5, 6, 7, 8, 9, 10}},
		page.Page{Kind: page.Inner, Keys: []string{"c", "b", "a"}, Kids: []int{1, 2, 3, 4}},
		page.Page{Kind: page.Meta, Keys: []string{"a", "b"}, Vals: []string{"", ""}, Kids: []int{1, 2, 3}},
	)
}

// P7.1: where a key stands in a leaf, or would: ahead of all, behind all, between.
func TestAtLeaf(t *testing.T) {
	p := leaf("bdf")
	for k, want := range map[string]int{"": 0, "a": 0, "b": 0, "b\x00": 1, "c": 1, "d": 1, "e": 2, "f": 2, "g": 3, "\xff": 3} {
		if at, has := At(p, k); at != want || has != slices.Contains(p.Keys, k) {
			t.Errorf("At(%q): %d %v", k, at, has)
		}
	}
	if at, has := At(leaf(""), "a"); at != 0 || has {
		t.Error("At of a leaf of none", at, has)
	}
}

// P7.1: the Kid beneath which a key stands: from a Key on it is the Kid behind that.
func TestAtInner(t *testing.T) {
	p := inner("bdf", 10, 11, 12, 13)
	for k, want := range map[string]int{"": 0, "a": 0, "b": 1, "b\x00": 1, "c": 1, "d": 2, "e": 2, "f": 3, "g": 3, "\xff": 3} {
		if at, has := At(p, k); at != want || has != slices.Contains(p.Keys, k) {
			t.Errorf("At(%q): %d %v", k, at, has)
		}
	}
}

// P7.1: the Val under a key of a leaf; nothing of a key that isn't there, or of other pages.
func TestGet(t *testing.T) {
	p := leaf("bdf")
	p.Vals[1] = ""
	for _, c := range []struct {
		k, v string
		has  bool
	}{{"b", "B", true}, {"d", "", true}, {"f", "F", true}, {"a", "", false}, {"c", "", false}, {"g", "", false}, {"", "", false}} {
		if v, has := Get(p, c.k); v != c.v || has != c.has {
			t.Errorf("Get(%q): %q %v", c.k, v, has)
		}
	}
	for _, p := range append(otherPages(), inner("bd", 1, 2, 3)) {
		if v, has := Get(p, "b"); v != "" || has {
			t.Errorf("Get of %v: %q %v", p, v, has)
		}
	}
}

// P7.1: Put of a key that is there, and of one that isn't: ahead of all, between, behind all, into a full leaf.
func TestPut(t *testing.T) {
	for _, c := range []struct{ from, k, want string }{
		{"", "a", "a"}, {"bdf", "a", "abdf"}, {"bdf", "c", "bcdf"}, {"bdf", "g", "bdfg"},
		{"bdf", "b", "bdf"}, {"bdf", "d", "bdf"}, {"bdf", "f", "bdf"}, {"abcdef", "g", "abcdefg"}, {"bcdefg", "a", "abcdefg"},
	} {
		p := leaf(c.from)
		want := leaf(c.want)
		want.Vals[slices.Index(want.Keys, c.k)] = "new"
		if got := Put(p, c.k, "new"); !got.Same(want) {
			t.Errorf("Put(%s, %s): %v", c.from, c.k, got)
		}
		if !p.Same(leaf(c.from)) {
			t.Errorf("Put(%s, %s) has turned its argument", c.from, c.k)
		}
	}
}

// P7.1: Drop of a key that is there, and of one that isn't.
func TestDrop(t *testing.T) {
	for _, c := range []struct{ from, k, want string }{
		{"", "a", ""}, {"a", "a", ""}, {"bdf", "b", "df"}, {"bdf", "d", "bf"}, {"bdf", "f", "bd"},
		{"bdf", "a", "bdf"}, {"bdf", "c", "bdf"}, {"bdf", "g", "bdf"}, {"abcdefg", "d", "abcefg"},
	} {
		p := leaf(c.from)
		if got := Drop(p, c.k); !got.Same(leaf(c.want)) {
			t.Errorf("Drop(%s, %s): %v", c.from, c.k, got)
		}
		if !p.Same(leaf(c.from)) {
			t.Errorf("Drop(%s, %s) has turned its argument", c.from, c.k)
		}
	}
}

// P7.1: many Puts and Drops leave what they leave in a map.
func TestLeafModel(t *testing.T) {
	rnd := rand.New(rand.NewSource(7))
	p, m := page.Page{Kind: page.Leaf}, map[string]string{}
	for range 2000 {
		k, v := string(rune('a'+rnd.Intn(12))), string(rune('A'+rnd.Intn(26)))
		if rnd.Intn(2) == 0 {
			p, m[k] = Put(p, k, v), v
		} else {
			p = Drop(p, k)
			delete(m, k)
		}
		if !slices.Equal(p.Keys, slices.Sorted(maps.Keys(m))) || len(p.Vals) != len(m) {
			t.Fatal(p, m)
		}
		for k := range m {
			if v, has := Get(p, k); !has || v != m[k] {
				t.Fatal(k, v, has)
			}
		}
	}
}

// P7.1: Over and Under, by how many a page has.
func TestOverUnder(t *testing.T) {
	if MinLeaf != 3 || MinKids != 4 {
		t.Error(MinLeaf, MinKids)
	}
	for n := range 12 {
		p := leaf("abcdefghijkl"[:n])
		if Over(p) != (n > 6) || Under(p) != (n < 3) {
			t.Error("leaf of", n, Over(p), Under(p))
		}
		q := page.Page{Kind: page.Inner, Kids: make([]int, n)}
		if n > 0 {
			q.Keys = leaf("abcdefghijkl"[1:n]).Keys
		}
		if Over(q) != (n > 8) || Under(q) != (n < 4) {
			t.Error("inner page of", n, Over(q), Under(q))
		}
	}
	for _, p := range otherPages() {
		if Over(p) || Under(p) {
			t.Error(p, Over(p), Under(p))
		}
	}
}

// P7.1: an inner page is asked by its Kids, a leaf by its Keys, and Keys of another page by nothing.
func TestOverBy(t *testing.T) {
	many := leaf("abcdefghi")
	many.Kind = page.Meta
	many.Kids = make([]int, 10)
	if Over(many) || Under(many) {
		t.Error("a page of another kind")
	}
	if eight := inner("abcdefg", 1, 2, 3, 4, 5, 6, 7, 8); Over(eight) || Under(eight) {
		t.Error("an inner page of 8 Kids, 7 Keys")
	}
	if four := inner("abc", 1, 2, 3, 4); Over(four) || Under(four) {
		t.Error("an inner page of 4 Kids, 3 Keys")
	}
}

// Rule 1: no call panics, at pages and places of any kind; arguments stay.
func TestAnyArguments(t *testing.T) {
	all := append(wrongPages(), leaf(""), leaf("a"), leaf("ab"), leaf("abcdefgh"), inner("a", 1, 2), inner("abcdefghi", 1, 2, 3, 4, 5, 6, 7, 8, 9, 10))
	for _, p := range all {
		was := p.Clone()
		for _, k := range []string{"", "a", "b", "z"} {
			At(p, k)
			Get(p, k)
			Put(p, k, "v")
			Drop(p, k)
			for _, at := range []int{-1 << 63, -2, -1, 0, 1, 2, 3, 4, 10, 11, 1<<63 - 2, 1<<63 - 1} {
				Hang(p, at, k, at)
				Turn(p, at, k)
				Unhang(p, at)
			}
			for _, q := range all {
				Join(p, k, q)
				Fill(p, k, q)
			}
		}
		Split(p)
		if !p.Same(was) {
			t.Error("an argument was turned", p, was)
		}
	}
}
