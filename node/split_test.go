package node

import (
	"slices"
	"strings"
	"testing"

	"dockmaster/page"
)

// full is an inner page with so many Kids, from 100 on, and Keys from b on.
func full(kids int) page.Page {
	p := page.Page{Kind: page.Inner}
	for i := range kids {
		p.Kids = append(p.Kids, 100+i)
		if i > 0 {
			p.Keys = append(p.Keys, string(rune('a'+i)))
		}
	}
	return p
}

// P7.2: leaves split, of 2 Keys and more; the key between is the second one's first.
func TestSplitLeaf(t *testing.T) {
	for _, c := range []struct{ from, a, k, b string }{
		{"ab", "a", "b", "b"},
		{"abc", "a", "b", "bc"},
		{"abcd", "ab", "c", "cd"},
		{"abcdefg", "abc", "d", "defg"},
		{"abcdefgh", "abcd", "e", "efgh"},
	} {
		p := leaf(c.from)
		a, k, b := Split(p)
		if !a.Same(leaf(c.a)) || k != c.k || !b.Same(leaf(c.b)) {
			t.Errorf("Split(%s): %v %s %v", c.from, a, k, b)
		}
		if !p.Same(leaf(c.from)) {
			t.Errorf("Split(%s) has turned its argument", c.from)
		}
	}
}

// P7.2: inner pages split, of 4 Kids and more; the key between is in neither.
func TestSplitInner(t *testing.T) {
	for _, c := range []struct {
		kids int
		a    page.Page
		k    string
		b    page.Page
	}{
		{4, inner("b", 100, 101), "c", inner("d", 102, 103)},
		{5, inner("b", 100, 101), "c", inner("de", 102, 103, 104)},
		{8, inner("bcd", 100, 101, 102, 103), "e", inner("fgh", 104, 105, 106, 107)},
		{9, inner("bcd", 100, 101, 102, 103), "e", inner("fghi", 104, 105, 106, 107, 108)},
	} {
		p := full(c.kids)
		a, k, b := Split(p)
		if !a.Same(c.a) || k != c.k || !b.Same(c.b) {
			t.Errorf("Split of %d Kids: %v %s %v", c.kids, a, k, b)
		}
		if !p.Same(full(c.kids)) {
			t.Errorf("Split of %d Kids has turned its argument", c.kids)
		}
	}
}

// P7.2: of pages of any size Split's halves are right ones, and Join makes the page of them again.
func TestSplitJoin(t *testing.T) {
	for n := 2; n < 20; n++ {
		p := leaf("abcdefghijklmnopqrstuvwxyz"[:n])
		a, k, b := Split(p)
		if len(a.Keys) != n/2 || len(b.Keys) != n-n/2 || b.Keys[0] != k || !Join(a, k, b).Same(p) {
			t.Error("leaf of", n, a, k, b)
		}
	}
	for n := 4; n < 20; n++ {
		p := full(n)
		a, k, b := Split(p)
		if len(a.Kids) != n/2 || len(b.Kids) != n-n/2 || !isInner(a) || !isInner(b) || !Join(a, k, b).Same(p) {
			t.Error("inner page of", n, a, k, b)
		}
	}
}

// P7.2: Join of leaves is without the key between, of inner pages with it.
func TestJoin(t *testing.T) {
	for _, c := range []struct{ a, b, want string }{{"ab", "cd", "abcd"}, {"", "c", "c"}, {"a", "", "a"}, {"", "", ""}, {"abcdef", "ghijkl", "abcdefghijkl"}} {
		if got := Join(leaf(c.a), "c", leaf(c.b)); !got.Same(leaf(c.want)) {
			t.Errorf("Join(%s, c, %s): %v", c.a, c.b, got)
		}
	}
	a, b := inner("b", 1, 2), inner("xz", 3, 4, 5)
	if got := Join(a, "m", b); !got.Same(inner("bmxz", 1, 2, 3, 4, 5)) {
		t.Error("Join of inner pages", got)
	}
	if !a.Same(inner("b", 1, 2)) || !b.Same(inner("xz", 3, 4, 5)) {
		t.Error("Join has turned an argument", a, b)
	}
}

// P7.2: two pages that go into one page, up to the limit, become one; of more the Split of the joined one.
func TestFill(t *testing.T) {
	letters := "abcdefghijklmnopqrstuvwxyz"
	for i := range 9 {
		for j := range 9 {
			a, b := leaf(letters[:i]), leaf(letters[i:i+j])
			fills(t, a, letters[i:i+1], b, i+j > 6)
			if i > 0 && j > 0 {
				whole := full(i + j)
				a = page.Page{Kind: page.Inner, Keys: whole.Keys[:i-1], Kids: whole.Kids[:i]}
				b = page.Page{Kind: page.Inner, Keys: whole.Keys[i:], Kids: whole.Kids[i:]}
				fills(t, a, whole.Keys[i-1], b, i+j > 8)
			}
		}
	}
}

func fills(t *testing.T, a page.Page, k string, b page.Page, over bool) {
	t.Helper()
	wasA, wasB := a.Clone(), b.Clone()
	x, between, y, two := Fill(a, k, b)
	one := Join(a, k, b)
	switch {
	case two != over:
		t.Error(a, k, b, "two:", two)
	case two:
		p, m, q := Split(one)
		if !x.Same(p) || between != m || !y.Same(q) || Under(x) || Under(y) || Over(x) && len(one.Keys) < 13 {
			t.Error(a, k, b, "became", x, between, y)
		}
	case !x.Same(one) || between != "" || !y.Same(page.Page{}):
		t.Error(a, k, b, "became", x, between, y)
	}
	if !a.Same(wasA) || !b.Same(wasB) {
		t.Error("Fill has turned an argument", a, b)
	}
}

// P7.2: Fill, written out: 1 and 5 Keys are one leaf, 2 and 5 are two; 3 and 5 Kids are one page, 3 and 6 are two.
func TestFillEdges(t *testing.T) {
	if x, k, y, two := Fill(leaf("a"), "b", leaf("bcdef")); two || k != "" || !x.Same(leaf("abcdef")) || !y.Same(page.Page{}) {
		t.Error(x, k, y, two)
	}
	if x, k, y, two := Fill(leaf("ab"), "c", leaf("cdefg")); !two || k != "d" || !x.Same(leaf("abc")) || !y.Same(leaf("defg")) {
		t.Error(x, k, y, two)
	}
	if x, k, y, two := Fill(inner("bc", 100, 101, 102), "d", inner("efgh", 103, 104, 105, 106, 107)); two || k != "" || !x.Same(full(8)) || !y.Same(page.Page{}) {
		t.Error(x, k, y, two)
	}
	x, k, y, two := Fill(inner("bc", 100, 101, 102), "d", inner("efghi", 103, 104, 105, 106, 107, 108))
	if !two || k != "e" || !x.Same(inner("bcd", 100, 101, 102, 103)) || !y.Same(inner("fghi", 104, 105, 106, 107, 108)) {
		t.Error(x, k, y, two)
	}
}

// P7.3: Hang at the first place, at one between, at the last one; into a full page.
func TestHang(t *testing.T) {
	for _, c := range []struct {
		at   int
		k    string
		want page.Page
	}{
		{0, "a", inner("abd", 100, 9, 101, 102)},
		{1, "c", inner("bcd", 100, 101, 9, 102)},
		{2, "e", inner("bde", 100, 101, 102, 9)},
	} {
		p := inner("bd", 100, 101, 102)
		if got := Hang(p, c.at, c.k, 9); !got.Same(c.want) {
			t.Errorf("Hang at %d: %v", c.at, got)
		}
		if !p.Same(inner("bd", 100, 101, 102)) {
			t.Errorf("Hang at %d has turned its argument", c.at)
		}
	}
	if got := Hang(full(8), 7, "z", 9); len(got.Kids) != 9 || got.Kids[8] != 9 || got.Keys[7] != "z" || !Over(got) {
		t.Error("Hang into a full page", got)
	}
}

// P7.3: Turn at each place.
func TestTurn(t *testing.T) {
	for at, want := range []string{"xdf", "bxf", "bdx"} {
		p := inner("bdf", 1, 2, 3, 4)
		if got := Turn(p, at, "x"); !got.Same(inner(want, 1, 2, 3, 4)) {
			t.Errorf("Turn at %d: %v", at, got)
		}
		if !p.Same(inner("bdf", 1, 2, 3, 4)) {
			t.Errorf("Turn at %d has turned its argument", at)
		}
	}
}

// P7.3: Unhang at each place, down to a page of one Kid.
func TestUnhang(t *testing.T) {
	for at, want := range []page.Page{inner("df", 1, 3, 4), inner("bf", 1, 2, 4), inner("bd", 1, 2, 3)} {
		p := inner("bdf", 1, 2, 3, 4)
		if got := Unhang(p, at); !got.Same(want) {
			t.Errorf("Unhang at %d: %v", at, got)
		}
		if !p.Same(inner("bdf", 1, 2, 3, 4)) {
			t.Errorf("Unhang at %d has turned its argument", at)
		}
	}
	if got := Unhang(inner("b", 1, 2), 0); !got.Same(page.Page{Kind: page.Inner, Kids: []int{1}}) {
		t.Error("Unhang of the last Key", got)
	}
}

// P7.3: Unhang takes away what Hang laid, at each place of pages of any size.
func TestHangUnhang(t *testing.T) {
	for kids := 1; kids < 10; kids++ {
		p := full(kids)
		for at := range kids {
			h := Hang(p, at, "k", 7)
			if h.Keys[at] != "k" || h.Kids[at+1] != 7 || !Unhang(h, at).Same(p) {
				t.Error(kids, at, h)
			}
		}
	}
}

// spoil turns a page in all its places, and behind them.
func spoil(p page.Page) {
	for _, list := range [][]string{p.Keys[:cap(p.Keys)], p.Vals[:cap(p.Vals)]} {
		for i := range list {
			list[i] = "spoilt"
		}
	}
	for i := range p.Kids[:cap(p.Kids)] {
		p.Kids[:cap(p.Kids)][i] = -9
	}
}

// P7.1 to P7.3, rule 4: what a call answers shares no memory with its arguments, nor its pages with each other.
func TestApart(t *testing.T) {
	type made func(p page.Page) []page.Page
	one := func(p page.Page) []page.Page { return []page.Page{p} }
	pair := func(a page.Page, _ string, b page.Page) []page.Page { return []page.Page{a, b} }
	for name, call := range map[string]made{
		"Put new":  func(p page.Page) []page.Page { return one(Put(p, "x", "x")) },
		"Put old":  func(p page.Page) []page.Page { return one(Put(p, "b", "x")) },
		"Drop":     func(p page.Page) []page.Page { return one(Drop(p, "b")) },
		"Drop not": func(p page.Page) []page.Page { return one(Drop(p, "x")) },
		"Split":    func(p page.Page) []page.Page { return pair(Split(p)) },
		"Join": func(p page.Page) []page.Page {
			return []page.Page{Join(p, "x", page.Page{Kind: p.Kind}), Join(page.Page{Kind: p.Kind}, "x", p)}
		},
		"Fill": func(p page.Page) []page.Page {
			a, _, b, _ := Fill(p, "x", p)
			return []page.Page{a, b}
		},
		"Hang":   func(p page.Page) []page.Page { return one(Hang(p, 1, "x", 7)) },
		"Turn":   func(p page.Page) []page.Page { return one(Turn(p, 1, "x")) },
		"Unhang": func(p page.Page) []page.Page { return one(Unhang(p, 1)) },
	} {
		for _, p := range []page.Page{leaf("abcdef"), full(8), {Kind: page.Meta, Keys: []string{"a"}}} {
			// With room behind: what is laid into it would be seen.
			p.Keys, p.Vals, p.Kids = slices.Grow(p.Keys, 9), slices.Grow(p.Vals, 9), slices.Grow(p.Kids, 9)
			was, out := p.Clone(), call(p)
			want := make([]page.Page, len(out))
			for i := range out {
				want[i] = out[i].Clone()
			}
			for i := range out {
				if !out[i].Same(want[i]) {
					t.Errorf("%s: answer %d shares with one ahead", name, i)
				}
				spoil(out[i])
			}
			if !p.Same(was) || strings.Contains(strings.Join(p.Keys[:cap(p.Keys)], ""), "spoilt") || slices.Contains(p.Kids[:cap(p.Kids)], -9) {
				t.Errorf("%s: its answer shares with its argument", name)
			}
		}
	}
}
