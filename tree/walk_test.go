package tree

import (
	"fmt"
	"slices"
	"strings"
	"testing"

	"dockmaster/api"
	"dockmaster/key"
	"dockmaster/page"
)

// gone is the keys that All tells, at most so many, as one text; each with what stands under it.
func gone(t *testing.T, s Pages, most int) string {
	t.Helper()
	out := []string{}
	for k, v := range All(s) {
		if v != valueOf(k) {
			t.Errorf("under %q stands %q", k, v)
		}
		out = append(out, k)
		if len(out) == most {
			break
		}
	}
	return strings.Join(out, "")
}

const noEnd = -1 // All isn't left early

// P10.3: all keys, in order, of trees of no page, one, and more.
func TestAll(t *testing.T) {
	root, deep := threeDeep()
	for want, d := range map[string]*desk{
		"":                         newDesk(0, nil),
		"acd":                      newDesk(1, leaves(1, "acd")),
		"abcdefgh":                 newDesk(9, with(leaves(1, "abc", "defgh"), pages{9: inner("d", 1, 2)})),
		"abcdefghijklmnopqrstuvwx": newDesk(root, deep),
	} {
		if got := gone(t, d, noEnd); got != want {
			t.Errorf("All: %q, want %q", got, want)
		}
		d.unturned(t)
	}
	empty := newDesk(1, pages{1: {Kind: page.Leaf}})
	if got := gone(t, empty, noEnd); got != "" || len(Map(empty)) != 0 {
		t.Errorf("All of an empty leaf: %q", got)
	}
}

// P10.3: All left behind each key, and gone through again, also while it is gone through.
func TestAllLeftEarly(t *testing.T) {
	root, deep := threeDeep()
	d := newDesk(root, deep)
	const all = "abcdefghijklmnopqrstuvwx"
	seq := All(d)
	for most := 1; most <= len(all); most++ {
		if got := gone(t, d, most); got != all[:most] {
			t.Errorf("left behind %d: %q", most, got)
		}
		count := 0
		for k := range seq {
			if k != all[count:count+1] {
				t.Errorf("the %d. key: %q", count, k)
			}
			if count++; count == most {
				break
			}
		}
	}
	text := ""
	for k := range seq {
		text += k
		inside := ""
		for k := range seq {
			inside += k
		}
		if inside != all {
			t.Error("gone through inside:", inside)
		}
	}
	if text != all {
		t.Error("gone through outside:", text)
	}
}

// P10.3: All that is left early loads no page more.
func TestAllLeftEarlyLoads(t *testing.T) {
	root, deep := threeDeep()
	d := newDesk(root, deep)
	gone(t, d, 4)
	if want := []string{"Load 11", "Load 9", "Load 1", "Load 2"}; !slices.Equal(d.calls, want) {
		t.Error("called", d.calls)
	}
}

// P10.3: of pages that aren't a tree nothing is told beneath what can't be loaded, is no page of a tree, or is page 0; all else is.
func TestAllOfNoTree(t *testing.T) {
	root, deep := threeDeep()
	for name, c := range map[string]struct {
		over  pages
		fails int
		want  string
	}{
		"the root isn't loaded":      {nil, 11, ""},
		"an inner page isn't loaded": {nil, 9, "mnopqrstuvwx"},
		"a leaf isn't loaded":        {nil, 3, "abcdefjklmnopqrstuvwx"},
		"the last leaf isn't loaded": {nil, 8, "abcdefghijklmnopqrstu"},
		"a free page":                {pages{2: {Kind: page.Free, Next: 3}}, 0, "abcghijklmnopqrstuvwx"},
		"a meta page":                {pages{10: {Kind: page.Meta, Root: 5, Size: 9}}, 0, "abcdefghijkl"},
		"the root is free":           {pages{11: {Kind: page.Free}}, 0, ""},
		"no kind":                    {pages{9: {Keys: []string{"a"}, Kids: []int{1, 2}}}, 0, "mnopqrstuvwx"},
		"a Kid 0":                    {pages{0: leaf("ABC"), 9: inner("dgj", 1, 0, 3, 4)}, 0, "abcghijklmnopqrstuvwx"},
		"a Kid that isn't there":     {pages{9: inner("dgj", 77, 2, -1, 4)}, 0, "defjklmnopqrstuvwx"},
		"a leaf too empty":           {pages{1: leaf("a")}, 0, "adefghijklmnopqrstuvwx"},
		"a leaf twice":               {pages{9: inner("dgj", 1, 1, 3, 4)}, 0, "abcabcghijklmnopqrstuvwx"},
		"out of order":               {pages{1: leaf("xyz")}, 0, "xyzdefghijklmnopqrstuvwx"},
		"unlike depth":               {pages{11: inner("b", 3, 10)}, 0, "ghimnopqrstuvwx"},
		"no Vals":                    {pages{1: {Kind: page.Leaf, Keys: []string{"a"}}}, 0, "defghijklmnopqrstuvwx"},
		"no Kids":                    {pages{9: {Kind: page.Inner}}, 0, "mnopqrstuvwx"},
	} {
		d := newDesk(root, with(deep, c.over))
		d.fails[fmt.Sprint("Load ", c.fails)] = api.ErrTorn
		if got := gone(t, d, noEnd); got != c.want {
			t.Errorf("%s: %q, want %q", name, got, c.want)
		}
		m := key.Map{}
		for _, k := range strings.Split(c.want, "") {
			if k != "" {
				m = append(m, api.Pair{Key: k, Val: valueOf(k)})
			}
		}
		if got := Map(d); !got.Same(m) {
			t.Errorf("%s: Map %v", name, got)
		}
		d.unturned(t)
	}
}

// P10.3: a leaf that is 12 deep is gone through, one that is deeper isn't, nor is it loaded.
func TestAllTooDeep(t *testing.T) {
	for count := 1; count <= 15; count++ {
		want := "efg"
		if count > MostDeep {
			want = ""
		}
		d := newDesk(1, linePages(count, false))
		if got := gone(t, d, noEnd); got != want {
			t.Errorf("%d pages: %q", count, got)
		}
		if slices.Contains(d.calls, "Load 13") {
			t.Error("called", d.calls)
		}
	}
	d := newDesk(1, pages{1: inner("n", 2, 1), 2: leaf("abc")})
	if got := gone(t, d, noEnd); got != strings.Repeat("abc", 11) {
		t.Errorf("going round: %q", got)
	}
}

// P10.3: of pages that lead to each other in many ways at most MaxPage are gone through.
func TestAllOfManyPages(t *testing.T) {
	round := page.Page{Kind: page.Inner, Keys: strings.Split("abcdefg", ""), Kids: []int{1, 1, 1, 1, 1, 1, 1, 1}}
	d := newDesk(1, pages{1: round})
	if got := gone(t, d, noEnd); got != "" || len(d.calls) != page.MaxPage {
		t.Errorf("going round: %q, %d loads", got, len(d.calls))
	}
	// Six inner pages above each other, a leaf beneath each Kid of the last: 1 + 8 + .. + 8^5 inner pages, 8^6 leaves.
	all := pages{7: leaf("a")}
	for n := 1; n < 7; n++ {
		all[n] = page.Page{Kind: page.Inner, Keys: round.Keys, Kids: slices.Repeat([]int{n + 1}, 8)}
	}
	d = newDesk(1, all)
	seq := All(d)
	for range 2 {
		d.calls = nil
		keys := 0
		for range seq {
			keys++
		}
		if loads, leaves := len(d.calls), countOf(d.calls, "Load 7"); loads != page.MaxPage || keys != leaves || keys == 0 {
			t.Error("loads", loads, "keys", keys, "leaves", leaves)
		}
	}
	// One level less is fewer pages than that, and all of them are gone through.
	d = newDesk(2, all)
	if keys := len(gone(t, d, noEnd)); keys != 1<<15 {
		t.Error("keys", keys)
	}
}

func countOf(calls []string, what string) int {
	n := 0
	for _, c := range calls {
		if c == what {
			n++
		}
	}
	return n
}

// P10.3, and rule 4: Map is new memory each time.
func TestMap(t *testing.T) {
	root, deep := threeDeep()
	d := newDesk(root, deep)
	m := Map(d)
	if !m.Same(mapOf("abcdefghijklmnopqrstuvwx")) {
		t.Error("Map", m)
	}
	for i := range m {
		m[i] = api.Pair{}
	}
	if n := Map(d); !n.Same(mapOf("abcdefghijklmnopqrstuvwx")) {
		t.Error("Map", n)
	}
	if m := Map(newDesk(0, nil)); len(m) != 0 {
		t.Error("Map without a root", m)
	}
	d.unturned(t)
}
