package page

import (
	"math"
	"strings"
	"testing"
)

// leaf is a leaf with keys, and the same texts in capitals under them.
func leaf(keys ...string) Page {
	p := Page{Kind: Leaf, Keys: keys}
	for _, k := range keys {
		p.Vals = append(p.Vals, strings.ToUpper(k))
	}
	return p
}

// inner is an inner page with so many Kids, of which the last one is given.
func inner(kids, last int) Page {
	p := Page{Kind: Inner}
	for i := range kids {
		p.Kids = append(p.Kids, i)
		if i > 0 {
			p.Keys = append(p.Keys, string(rune('a'+i)))
		}
	}
	p.Kids[kids-1] = last
	return p
}

// with is a page that was turned by a function.
func with(p Page, turn func(*Page)) Page {
	turn(&p)
	return p
}

// rightPages is pages that are right, by what is at its edge in them.
func rightPages() map[string]Page {
	long := strings.Repeat("k", 24)
	big := Page{Kind: Leaf}
	for i := range 6 {
		big.Keys = append(big.Keys, long[1:]+string(rune('a'+i)))
		big.Vals = append(big.Vals, strings.Repeat("v", 48))
	}
	wide := Page{Kind: Inner, Kids: []int{65535}}
	for i := range 7 {
		wide.Keys = append(wide.Keys, long[1:]+string(rune('a'+i)))
		wide.Kids = append(wide.Kids, 65535)
	}
	return map[string]Page{
		"leaf of none":            {Kind: Leaf},
		"leaf of empty lists":     {Kind: Leaf, Keys: []string{}, Vals: []string{}, Kids: []int{}},
		"leaf of 1":               leaf("a"),
		"leaf of 6":               leaf("a", "b", "c", "d", "e", "f"),
		"leaf, greatest":          big,
		"leaf, a Val of none":     {Kind: Leaf, Keys: []string{"a"}, Vals: []string{""}},
		"leaf, a Val of 48":       {Kind: Leaf, Keys: []string{"a"}, Vals: []string{strings.Repeat("v", 48)}},
		"leaf, a Key of 24":       leaf(long),
		"leaf, Keys of bytes":     {Kind: Leaf, Keys: []string{"\x00", "\x00\x00", "Z", "a", "a\x00", "\xff"}, Vals: make([]string, 6)},
		"leaf, Vals that fall":    {Kind: Leaf, Keys: []string{"a", "b"}, Vals: []string{"z", "z"}},
		"inner of 2":              inner(2, 1),
		"inner of 8":              inner(8, 1),
		"inner, greatest":         wide,
		"inner, Kids of noughts":  {Kind: Inner, Keys: []string{"a"}, Kids: []int{0, 0}},
		"inner, Kid 65535":        inner(3, 65535),
		"inner, Kids that fall":   {Kind: Inner, Keys: []string{"a", "b"}, Kids: []int{9, 4, 2}},
		"meta of noughts":         {Kind: Meta},
		"meta, all greatest":      {Kind: Meta, Root: 65535, Next: 65535, Size: 65536, Idle: 65536},
		"meta, Idle below Size":   {Kind: Meta, Root: 1, Next: 2, Size: 3, Idle: 1},
		"meta, Root not in Size":  {Kind: Meta, Root: 5, Next: 9, Size: 3},
		"free of noughts":         {Kind: Free},
		"free, Next 65535":        {Kind: Free, Next: 65535},
		"free with lists of none": {Kind: Free, Keys: []string{}, Vals: []string{}, Kids: []int{}},
	}
}

// wrongPages is pages that aren't right, by what is wrong in them.
func wrongPages() map[string]Page {
	m := map[string]Page{
		"no kind":                 {},
		"kind -1":                 {Kind: -1},
		"kind 5":                  {Kind: 5},
		"kind of the greatest":    {Kind: math.MaxInt},
		"leaf of 7":               leaf("a", "b", "c", "d", "e", "f", "g"),
		"leaf, Keys that fall":    leaf("b", "a"),
		"leaf, the last falls":    leaf("a", "c", "b"),
		"leaf, a Key twice":       leaf("a", "b", "b"),
		"leaf, a Key of none":     leaf("", "a"),
		"leaf, a Key of 25":       leaf(strings.Repeat("k", 25)),
		"leaf, a Val of 49":       {Kind: Leaf, Keys: []string{"a", "b"}, Vals: []string{"", strings.Repeat("v", 49)}},
		"leaf, too few Vals":      {Kind: Leaf, Keys: []string{"a"}},
		"leaf, too many Vals":     {Kind: Leaf, Vals: []string{"a"}},
		"inner of none":           {Kind: Inner},
		"inner of 1":              {Kind: Inner, Kids: []int{1}},
		"inner of 9":              inner(9, 1),
		"inner, Kid -1":           inner(2, -1),
		"inner, Kid 65536":        inner(2, 65536),
		"inner, first Kid -1":     {Kind: Inner, Keys: []string{"a"}, Kids: []int{-1, 1}},
		"inner, as many Keys":     {Kind: Inner, Keys: []string{"a", "b"}, Kids: []int{1, 2}},
		"inner, too few Keys":     {Kind: Inner, Kids: []int{1, 2}},
		"inner, a Key twice":      {Kind: Inner, Keys: []string{"a", "a"}, Kids: []int{1, 2, 3}},
		"inner, Keys that fall":   {Kind: Inner, Keys: []string{"b", "a"}, Kids: []int{1, 2, 3}},
		"inner, a Key of none":    {Kind: Inner, Keys: []string{""}, Kids: []int{1, 2}},
		"inner, a Key of 25":      {Kind: Inner, Keys: []string{strings.Repeat("k", 25)}, Kids: []int{1, 2}},
		"meta, Root -1":           {Kind: Meta, Root: -1},
		"meta, Root 65536":        {Kind: Meta, Root: 65536},
		"meta, Next -1":           {Kind: Meta, Next: -1},
		"meta, Next 65536":        {Kind: Meta, Next: 65536},
		"meta, Size -1":           {Kind: Meta, Size: -1, Idle: -1},
		"meta, Size 65537":        {Kind: Meta, Size: 65537},
		"meta, Size of the least": {Kind: Meta, Size: math.MinInt, Idle: math.MinInt},
		"meta, Idle -1":           {Kind: Meta, Size: 3, Idle: -1},
		"meta, Idle above Size":   {Kind: Meta, Size: 3, Idle: 4},
		"free, Next -1":           {Kind: Free, Next: -1},
		"free, Next 65536":        {Kind: Free, Next: 65536},
		"leaf with Kids":          with(leaf("a"), func(p *Page) { p.Kids = []int{1} }),
		"inner with Vals":         with(inner(3, 1), func(p *Page) { p.Vals = []string{"", ""} }),
		"free with Root":          {Kind: Free, Root: 1},
		"free with Size":          {Kind: Free, Size: 1},
		"free with Idle":          {Kind: Free, Idle: 1},
	}
	for name, p := range map[string]Page{"leaf": leaf("a"), "inner": inner(2, 1)} {
		m[name+" with Root"] = with(p, func(p *Page) { p.Root = 1 })
		m[name+" with Next"] = with(p, func(p *Page) { p.Next = 1 })
		m[name+" with Size"] = with(p, func(p *Page) { p.Size = 1 })
		m[name+" with Idle"] = with(p, func(p *Page) { p.Idle = -1 })
	}
	for name, p := range map[string]Page{"meta": {Kind: Meta}, "free": {Kind: Free}} {
		m[name+" with Keys"] = with(p, func(p *Page) { p.Keys = []string{"a"} })
		m[name+" with Vals"] = with(p, func(p *Page) { p.Vals = []string{"a"} })
		m[name+" with Kids"] = with(p, func(p *Page) { p.Kids = []int{1} })
	}
	return m
}

// P6.1: the kinds' numbers and the limits, as the chapter says them.
func TestKinds(t *testing.T) {
	if Leaf != 1 || Inner != 2 || Meta != 3 || Free != 4 || MaxLeaf != 6 || MaxKids != 8 || MaxPage != 65536 {
		t.Error(Leaf, Inner, Meta, Free, MaxLeaf, MaxKids, MaxPage)
	}
}

// P6.1: what a page of each kind has, up to the limits, and nothing else.
func TestRight(t *testing.T) {
	for name, p := range rightPages() {
		if !p.Right() {
			t.Errorf("%s isn't right", name)
		}
	}
	for name, p := range wrongPages() {
		if p.Right() {
			t.Errorf("%s is right", name)
		}
	}
}

// P6.1: Same is so of a page and its Clone, and of no two of these pages that differ.
func TestSame(t *testing.T) {
	none := map[string]string{"leaf of empty lists": "leaf of none", "free with lists of none": "free of noughts"}
	named := func(name string) string {
		if as, ok := none[name]; ok {
			return as
		}
		return name
	}
	all := rightPages()
	for name, p := range wrongPages() {
		all[name] = p
	}
	for a, p := range all {
		for b, q := range all {
			if got, want := p.Same(q), named(a) == named(b); got != want {
				t.Errorf("%s, %s: Same is %v", a, b, got)
			}
		}
		if !p.Clone().Same(p) || !p.Same(p.Clone()) {
			t.Errorf("%s: its Clone isn't the same", a)
		}
	}
}

// P6.1: each field counts, and the order of lists does.
func TestSameField(t *testing.T) {
	full := Page{Kind: Meta, Keys: []string{"a", "b"}, Vals: []string{"c", "d"}, Kids: []int{1, 2}, Root: 3, Next: 4, Size: 5, Idle: 6}
	for i, turn := range []func(*Page){
		func(p *Page) { p.Kind++ },
		func(p *Page) { p.Root++ },
		func(p *Page) { p.Next++ },
		func(p *Page) { p.Size++ },
		func(p *Page) { p.Idle++ },
		func(p *Page) { p.Keys = []string{"b", "a"} },
		func(p *Page) { p.Vals = []string{"d", "c"} },
		func(p *Page) { p.Kids = []int{2, 1} },
		func(p *Page) { p.Keys = p.Keys[:1] },
		func(p *Page) { p.Vals = p.Vals[:1] },
		func(p *Page) { p.Kids = p.Kids[:1] },
		func(p *Page) { p.Keys = nil },
		func(p *Page) { p.Keys, p.Vals = p.Vals, p.Keys },
	} {
		if other := with(full, turn); other.Same(full) || full.Same(other) {
			t.Error(i, other)
		}
	}
	if !(Page{}).Same(Page{}) || !full.Same(full) {
		t.Error("not the same as itself")
	}
}

// P6.1: a Clone that is turned, or made longer, leaves the page, and the other way round.
func TestCloneApart(t *testing.T) {
	make1 := func() Page {
		p := Page{Kind: Leaf, Root: 3, Next: 4, Size: 5, Idle: 6}
		// With room behind: an append to a list that is shared would be seen.
		p.Keys = append(make([]string, 0, 8), "a", "b")
		p.Vals = append(make([]string, 0, 8), "c", "d")
		p.Kids = append(make([]int, 0, 8), 1, 2)
		return p
	}
	spoil := func(p *Page) {
		p.Keys[0], p.Vals[0], p.Kids[0] = "x", "x", 9
		p.Keys, p.Vals, p.Kids = append(p.Keys, "x"), append(p.Vals, "x"), append(p.Kids, 9)
		p.Root = 9
	}
	p := make1()
	c := p.Clone()
	spoil(&c)
	if !p.Same(make1()) || p.Keys[:3][2] == "x" || p.Vals[:3][2] == "x" || p.Kids[:3][2] == 9 {
		t.Error("the Clone's turning is seen in the page", p)
	}
	c = p.Clone()
	spoil(&p)
	if !c.Same(make1()) {
		t.Error("the page's turning is seen in the Clone", c)
	}
}
