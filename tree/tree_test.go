package tree

import (
	"fmt"
	"slices"
	"strings"
	"testing"

	"dockmaster/api"
	"dockmaster/key"
	"dockmaster/page"
)

// threeDeep is a tree of two inner pages, with four leaves each, beneath a root.
func threeDeep() (int, pages) {
	return 11, with(leaves(1, "abc", "def", "ghi", "jkl", "mno", "pqr", "stu", "vwx"), pages{
		9:  inner("dgj", 1, 2, 3, 4),
		10: inner("psv", 5, 6, 7, 8),
		11: inner("m", 9, 10),
	})
}

// P10.1: what stands under keys in trees of one page, two and three above each other; what doesn't.
func TestGet(t *testing.T) {
	root, deep := threeDeep()
	for name, d := range map[string]*desk{
		"one":   newDesk(1, leaves(1, "abcdef")),
		"two":   newDesk(9, with(leaves(1, "abc", "defgh"), pages{9: inner("d", 1, 2)})),
		"three": newDesk(root, deep),
	} {
		m := Map(d)
		if len(m) == 0 {
			t.Fatal(name, "has no keys")
		}
		for _, x := range m {
			gets(t, d, x.Key, x.Val)
			for _, near := range []string{x.Key + "\x00", x.Key + "a", string(x.Key[0] - 32)} {
				getsNone(t, d, near, api.OK)
			}
		}
		getsNone(t, d, "\x00", api.OK)
		getsNone(t, d, "\xff", api.OK)
		d.unturned(t)
	}
}

// P10.1: a key that was put anew, with no text under it, is there.
func TestGetNoText(t *testing.T) {
	d := newDesk(0, nil)
	puts(t, d, "a", "", api.OK)
	gets(t, d, "a", "")
}

// P10.1, P10.2: Get, Put and Drop without a root; the example.
func TestWithoutRoot(t *testing.T) {
	d := newDesk(0, nil)
	getsNone(t, d, "a", api.OK)
	drops(t, d, "a", false, api.OK)
	if len(d.calls) != 0 {
		t.Error("called", d.calls)
	}
	sound(t, d, nil)
	puts(t, d, "a", valueOf("a"), api.OK)
	if want := []string{"Get", "Save 1", "SetRoot 1"}; !slices.Equal(d.calls, want) {
		t.Error("called", d.calls, "want", want)
	}
	d.holds(t, 1, leaves(1, "a"))
	puts(t, d, "b", valueOf("b"), api.OK)
	d.holds(t, 1, leaves(1, "ab"))
	sound(t, d, mapOf("ab"))
	if n, deep, err := Check(d); n != 1 || deep != 1 || err != api.OK {
		t.Error("Check", n, deep, err)
	}
}

// P10.1: keys and values that can't be: with a root, without one, with one that can't be loaded; no page is touched.
func TestWrongKeysAndValues(t *testing.T) {
	long, great := strings.Repeat("k", api.MaxKey+1), strings.Repeat("v", api.MaxVal+1)
	for _, root := range []int{0, 1, 7} {
		d := newDesk(root, leaves(1, "abc"))
		for k, want := range map[string]api.Errno{"": api.ErrArg, long: api.ErrKey, strings.Repeat("k", 1000): api.ErrKey} {
			getsNone(t, d, k, want)
			puts(t, d, k, "v", want)
			puts(t, d, k, great, want)
			drops(t, d, k, false, want)
		}
		puts(t, d, "a", great, api.ErrKey)
		puts(t, d, "x", great, api.ErrKey)
		if len(d.calls) != 0 {
			t.Error("called", d.calls)
		}
		d.holds(t, root, leaves(1, "abc"))
	}
}

// P10.1: keys and values as long as may be, and of any bytes.
func TestLongKeysAndValues(t *testing.T) {
	d, m := newDesk(0, nil), key.Map{}
	for i := range 60 {
		k := strings.Repeat("\xff", api.MaxKey-1) + string([]byte{byte(i * 37)})
		v := strings.Repeat("\x00", api.MaxVal-1) + string([]byte{byte(i)})
		puts(t, d, k, v, api.OK)
		m = m.With(k, v)
		gets(t, d, k, v)
	}
	sound(t, d, m)
}

// P10.1: a Put of a key that is there is of its value alone, in a full leaf too.
func TestPutAgain(t *testing.T) {
	was := with(leaves(1, "abcdef", "ghijkl"), pages{3: inner("g", 1, 2)})
	d := newDesk(3, was)
	m := mapOf("abcdefghijkl")
	for _, k := range []string{"a", "f", "g", "i", "l"} {
		puts(t, d, k, "new", api.OK)
		m = m.With(k, "new")
		gets(t, d, k, "new")
	}
	sound(t, d, m)
	if d.size != 4 || d.root != 3 || !d.has[3].Same(was[3]) {
		t.Error("pages were had", d.size, d.root, d.has[3])
	}
	puts(t, d, "g", "", api.OK)
	gets(t, d, "g", "")
}

// P10.1: a Drop of a key that isn't there turns no page.
func TestDropNone(t *testing.T) {
	root, deep := threeDeep()
	d := newDesk(root, deep)
	for _, k := range []string{"\x00", "A", "aa", "dd", "m\x00", "x0", "y", "\xff"} {
		drops(t, d, k, false, api.OK)
	}
	for _, c := range d.calls {
		if !strings.HasPrefix(c, "Load ") {
			t.Error("called", c)
		}
	}
	d.holds(t, root, deep)
	empty := newDesk(1, pages{1: {Kind: page.Leaf}})
	drops(t, empty, "a", false, api.OK)
	empty.holds(t, 1, pages{1: {Kind: page.Leaf}})
}

// P10.2: a root that is a leaf may have less than others, and none; it stays, and takes keys again.
func TestDropAll(t *testing.T) {
	d := newDesk(1, leaves(1, "abc"))
	for i, k := range []string{"b", "a", "c"} {
		drops(t, d, k, true, api.OK)
		drops(t, d, k, false, api.OK)
		getsNone(t, d, k, api.OK)
		sound(t, d, mapOf([]string{"ac", "c", ""}[i]))
	}
	d.holds(t, 1, pages{1: {Kind: page.Leaf}})
	puts(t, d, "z", valueOf("z"), api.OK)
	d.holds(t, 1, leaves(1, "z"))
}

// linePages are so many pages above each other, the last one a leaf; each inner one has its way on at one place, and a leaf that isn't there at the other.
func linePages(count int, right bool) pages {
	all := pages{}
	for n := 1; n < count; n++ {
		all[n] = inner("n", n+1, 99)
		if right {
			all[n] = inner("c", 99, n+1)
		}
	}
	all[count] = leaf("efg")
	return all
}

// P10.1: a way of 12 pages is gone, one of 13 isn't.
func TestWayLength(t *testing.T) {
	for _, right := range []bool{false, true} {
		for count := 1; count <= MostDeep; count++ {
			d := newDesk(1, linePages(count, right))
			gets(t, d, "f", valueOf("f"))
			getsNone(t, d, "h", api.OK)
			puts(t, d, "h", valueOf("h"), api.OK)
			gets(t, d, "h", valueOf("h"))
			drops(t, d, "e", true, api.OK)
			drops(t, d, "e", false, api.OK)
			getsNone(t, d, "e", api.OK)
		}
		for _, count := range []int{13, 14, 40} {
			allFail(t, newDesk(1, linePages(count, right)), "f", api.ErrBad)
		}
	}
}

// allFail asks Get, Put and Drop of a key, whose way can't be gone: nothing is turned by it.
func allFail(t *testing.T, d *desk, k string, want api.Errno) {
	t.Helper()
	root, was := d.root, with(d.has)
	getsNone(t, d, k, want)
	puts(t, d, k, "v", want)
	drops(t, d, k, false, want)
	for _, c := range d.calls {
		if !strings.HasPrefix(c, "Load ") {
			t.Error("called", c)
		}
	}
	if d.root != root || !slices.Equal(sortedText(d.has), sortedText(was)) {
		t.Error("turned", d.root, d.has)
	}
	d.unturned(t)
}

func sortedText(all pages) []string {
	out := []string{}
	for n, p := range all {
		out = append(out, fmt.Sprint(n, p))
	}
	slices.Sort(out)
	return out
}

// P10.1: pages on the way, at each depth, that are neither leaves nor inner ones, or lead to page 0; others beside the way don't matter.
func TestWayOfWrongPages(t *testing.T) {
	for name, wrong := range map[string]page.Page{
		"free":           {Kind: page.Free, Next: 2},
		"meta":           {Kind: page.Meta, Root: 2, Size: 5},
		"no kind":        {},
		"another kind":   {Kind: 5, Keys: []string{"e"}, Vals: []string{"v"}},
		"below 0":        {Kind: -1},
		"a Kid 0":        inner("ch", 3, 0, 3),
		"no Kids":        {Kind: page.Inner},
		"Kids too few":   inner("abc", 2),
		"Kids too many":  inner("c", 3, 3, 3),
		"no Vals":        {Kind: page.Leaf, Keys: []string{"e"}},
		"Vals too many":  {Kind: page.Leaf, Vals: []string{"v"}},
		"goes round":     inner("c", 3, 1),
		"to itself":      inner("c", 1, 1),
		"all Kids are 0": inner("c", 0, 0),
	} {
		for depth := 1; depth <= MostDeep; depth++ {
			all := linePages(MostDeep, true)
			all[depth] = wrong
			d := newDesk(1, all)
			t.Run(fmt.Sprint(name, " ", depth), func(t *testing.T) {
				allFail(t, d, "e", api.ErrBad)
			})
		}
	}
	d := newDesk(2, pages{1: {Kind: page.Free}, 2: inner("de", 1, 3, 0), 3: leaf("d")})
	gets(t, d, "d", valueOf("d"))
	allFail(t, d, "a", api.ErrBad)
	d.calls = nil
	allFail(t, d, "e", api.ErrBad)
}

// P10.1: page 0 isn't asked for, even where it could be loaded.
func TestPageZeroIsNone(t *testing.T) {
	d := newDesk(1, pages{0: leaf("abc"), 1: inner("d", 0, 2), 2: leaf("def")})
	allFail(t, d, "b", api.ErrBad)
	if slices.Contains(d.calls, "Load 0") {
		t.Error("called", d.calls)
	}
	gets(t, d, "d", valueOf("d"))
}

// P10.1: the first error of Load on the way, at each depth; a page that isn't there.
func TestWayOfPagesThatCannotBeLoaded(t *testing.T) {
	for depth := 1; depth <= MostDeep; depth++ {
		d := newDesk(1, linePages(MostDeep, false))
		d.fails[fmt.Sprint("Load ", depth)] = api.ErrTorn
		for behind := depth + 1; behind <= MostDeep; behind++ {
			d.fails[fmt.Sprint("Load ", behind)] = api.ErrDown
		}
		allFail(t, d, "f", api.ErrTorn)
		if n := len(d.calls); n != 3*depth {
			t.Error("called", d.calls)
		}
	}
	d := newDesk(1, linePages(MostDeep, false))
	allFail(t, d, "n", api.ErrArg)
	for _, root := range []int{-1, 13, page.MaxPage, 1 << 40} {
		d.root = root
		allFail(t, d, "f", api.ErrArg)
	}
}
