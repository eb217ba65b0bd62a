package space

import (
	"fmt"
	"math"
	"strings"
	"testing"

	"dockmaster/api"
	"dockmaster/disk"
	"dockmaster/page"
	"dockmaster/pool"
	"dockmaster/wal"
)

const logSectors = 20

// bench is a pool of so many pages, and the disk that it lies on.
type bench struct {
	t *testing.T
	d *disk.Disk
	p *pool.Pool
}

func newBench(t *testing.T, pages int) *bench {
	t.Helper()
	d := disk.New(logSectors + pages)
	l, _ := wal.Open(d, 0, logSectors)
	p, err := pool.New(d, l, logSectors, pages, 0)
	if err != api.OK {
		t.Fatal("New", err)
	}
	return &bench{t: t, d: d, p: p}
}

// save lets a page of the pool be another one, past any View.
func (b *bench) save(n int, x page.Page) {
	b.t.Helper()
	if err := b.p.Save(n, x, 0); err != api.OK {
		b.t.Fatal("Save", n, err)
	}
}

// has holds a page of the pool against what is expected.
func (b *bench) has(n int, want page.Page) {
	b.t.Helper()
	if x, _, err := b.p.Load(n); err != api.OK || !x.Same(want) {
		b.t.Error("the pool has", n, x, err, "want", want)
	}
}

func (b *bench) view() *View {
	b.t.Helper()
	v, err := New(b.p)
	if err != api.OK || v == nil {
		b.t.Fatal("New", err)
	}
	return v
}

// begun is a View of a pool with this meta page.
func begun(t *testing.T, pages int, meta page.Page) (*bench, *View) {
	t.Helper()
	b := newBench(t, pages)
	b.save(0, meta)
	return b, b.view()
}

func meta(root, next, size, idle int) page.Page {
	return page.Page{Kind: page.Meta, Root: root, Next: next, Size: size, Idle: idle}
}

func free(next int) page.Page {
	return page.Page{Kind: page.Free, Next: next}
}

func leaf(s string) page.Page {
	return page.Page{Kind: page.Leaf, Keys: []string{"k"}, Vals: []string{s}}
}

func load(t *testing.T, v *View, n int, want page.Page) {
	t.Helper()
	if x, err := v.Load(n); err != api.OK || !x.Same(want) {
		t.Error("Load", n, x, err, "want", want)
	}
}

func loadFails(t *testing.T, v *View, n int, want api.Errno) {
	t.Helper()
	if x, err := v.Load(n); err != want || !x.Same(page.Page{}) {
		t.Error("Load", n, x, err, "want", want)
	}
}

func get(t *testing.T, v *View, want, left int) {
	t.Helper()
	if n, err := v.Get(); err != api.OK || n != want || v.Left() != left {
		t.Error("Get", n, err, "left", v.Left(), "want", want, left)
	}
}

// getFails asks for a page that can't be had: nothing is turned by it.
func getFails(t *testing.T, v *View, want api.Errno) {
	t.Helper()
	left, changes := v.Left(), v.Changes()
	if n, err := v.Get(); err != want || n != 0 {
		t.Error("Get", n, err, "want", want)
	}
	if v.Left() != left {
		t.Error("Left", v.Left(), left)
	}
	changed(t, v, changes...)
}

func done(t *testing.T, err api.Errno) {
	t.Helper()
	if err != api.OK {
		t.Error(err)
	}
}

func fails(t *testing.T, err api.Errno) {
	t.Helper()
	if err != api.ErrArg {
		t.Error("answered", err)
	}
}

// changed holds the changes against what is expected.
func changed(t *testing.T, v *View, want ...Change) {
	t.Helper()
	got := v.Changes()
	same := len(got) == len(want)
	for i := range min(len(got), len(want)) {
		same = same && got[i].N == want[i].N && got[i].P.Same(want[i].P)
	}
	if !same {
		t.Error("Changes", got, "want", want)
	}
}

// wrongNumbers are numbers that no View of Size has a page of, beside 0.
func wrongNumbers(size int) []int {
	return []int{math.MinInt, -1, size, size + 1, page.MaxPage, math.MaxInt}
}

// P9.1: First.
func TestFirst(t *testing.T) {
	if x := First(); !x.Same(meta(0, 0, 1, 0)) || !x.Right() {
		t.Error("First", x)
	}
	_, v := begun(t, 4, First())
	if v.Root() != 0 || v.Left() != 3 {
		t.Error("Root, Left", v.Root(), v.Left())
	}
	changed(t, v)
	loadFails(t, v, 0, api.ErrArg)
	loadFails(t, v, 1, api.ErrArg)
}

// P9.1: New of pools of which page 0 is something else, or can't be told.
func TestNewFails(t *testing.T) {
	newFails := func(name string, p *pool.Pool, want api.Errno) {
		t.Helper()
		if v, err := New(p); err != want || v != nil {
			t.Error(name, v, err, "want", want)
		}
	}
	newFails("a nil pool", nil, api.ErrArg)
	newFails("page 0 isn't there", newBench(t, 4).p, api.ErrBad)
	for name, x := range map[string]page.Page{
		"a leaf":     leaf("x"),
		"an inner":   {Kind: page.Inner, Keys: []string{"a"}, Kids: []int{1, 2}},
		"a free one": free(1),
	} {
		b := newBench(t, 4)
		b.save(0, x)
		newFails(name, b.p, api.ErrBad)
		b.save(1, First())
		newFails(name, b.p, api.ErrBad)
	}
	b := newBench(t, 4)
	b.d.Write(logSectors, []byte("nonsense"))
	newFails("no page", b.p, api.ErrBad)
	b.d.On(nil, 0)
	newFails("torn", b.p, api.ErrTorn)
	b.d.Off()
	newFails("without power", b.p, api.ErrDown)
}

// P9.1: what a View begins with, and that New turns nothing.
func TestNew(t *testing.T) {
	b, v := begun(t, 10, meta(3, 2, 5, 1))
	if v.Root() != 3 || v.Left() != 6 {
		t.Error("Root, Left", v.Root(), v.Left())
	}
	changed(t, v)
	b.has(0, meta(3, 2, 5, 1))
	b.save(4, leaf("x"))
	load(t, v, 4, leaf("x"))
	loadFails(t, v, 5, api.ErrArg)
}

// P9.1: what is done to a View is done to no other one, nor to the pool.
func TestTwoViews(t *testing.T) {
	b, v := begun(t, 10, meta(1, 0, 4, 0))
	for n := 1; n < 4; n++ {
		b.save(n, leaf("old"))
	}
	w := b.view()
	done(t, v.Save(1, leaf("new")))
	done(t, v.Free(2))
	done(t, v.SetRoot(3))
	get(t, v, 2, 6)
	get(t, v, 4, 5)
	for n := 1; n < 4; n++ {
		load(t, w, n, leaf("old"))
		b.has(n, leaf("old"))
	}
	b.has(0, meta(1, 0, 4, 0))
	loadFails(t, w, 4, api.ErrArg)
	if w.Root() != 1 || w.Left() != 6 {
		t.Error("Root, Left", w.Root(), w.Left())
	}
	changed(t, w)
	get(t, w, 4, 5)
	done(t, w.Save(1, leaf("other")))
	load(t, v, 1, leaf("new"))
	changed(t, v, Change{0, meta(3, 0, 5, 0)}, Change{1, leaf("new")}, Change{2, free(0)})
	changed(t, w, Change{0, meta(1, 0, 5, 0)}, Change{1, leaf("other")})
	changed(t, b.view())
}

// P9.2: Load, of pages of the pool and of the View, at the edges.
func TestLoad(t *testing.T) {
	b, v := begun(t, 10, meta(0, 0, 5, 0))
	for n := 1; n < 6; n++ {
		b.save(n, leaf(fmt.Sprint(n)))
	}
	for _, n := range append(wrongNumbers(5), 0) {
		loadFails(t, v, n, api.ErrArg)
	}
	load(t, v, 1, leaf("1"))
	load(t, v, 4, leaf("4"))
	done(t, v.Save(1, leaf("new")))
	load(t, v, 1, leaf("new"))
	done(t, v.Free(4))
	load(t, v, 4, free(0))
	done(t, v.Free(1))
	load(t, v, 1, free(4))
	done(t, v.Save(1, leaf("again")))
	load(t, v, 1, leaf("again"))
	load(t, v, 2, leaf("2"))
}

// P9.2: Load's errors are the pool's; what is kept aside is told without power.
func TestLoadFails(t *testing.T) {
	b, v := begun(t, 10, meta(0, 0, 8, 0))
	b.d.Sync()
	b.d.Write(logSectors+6, nil)
	b.d.On(nil, 0)
	loadFails(t, v, 5, api.ErrBad)
	loadFails(t, v, 6, api.ErrTorn)
	done(t, v.Save(6, leaf("x")))
	done(t, v.Free(7))
	b.d.Off()
	loadFails(t, v, 5, api.ErrDown)
	loadFails(t, v, 8, api.ErrArg)
	loadFails(t, v, 0, api.ErrArg)
	load(t, v, 6, leaf("x"))
	load(t, v, 7, free(0))
	get(t, v, 7, 2)
}

// P9.2: Save, at the edges, of pages that are right and that aren't.
func TestSave(t *testing.T) {
	b, v := begun(t, 10, meta(0, 0, 5, 0))
	for _, n := range append(wrongNumbers(5), 0) {
		fails(t, v.Save(n, leaf("x")))
	}
	for _, x := range []page.Page{
		{}, {Kind: 5}, free(-1), meta(0, 0, 1, 2),
		{Kind: page.Leaf, Keys: []string{"b", "a"}, Vals: []string{"", ""}},
		{Kind: page.Inner, Kids: []int{1}},
		leaf(strings.Repeat("v", 49)),
	} {
		fails(t, v.Save(1, x))
		fails(t, v.Save(0, x))
		fails(t, v.Save(5, x))
	}
	changed(t, v)
	loadFails(t, v, 1, api.ErrBad)
	for _, x := range []page.Page{leaf("x"), free(3), meta(1, 2, 3, 1), {Kind: page.Inner, Keys: []string{"a"}, Kids: []int{1, 2}}} {
		for _, n := range []int{4, 1} {
			done(t, v.Save(n, x))
			load(t, v, n, x)
		}
		changed(t, v, Change{1, x}, Change{4, x})
	}
	fails(t, v.Save(1, page.Page{}))
	load(t, v, 1, page.Page{Kind: page.Inner, Keys: []string{"a"}, Kids: []int{1, 2}})
	if v.Left() != 5 || b.p.Wrote() != 0 {
		t.Error("Left, Wrote", v.Left(), b.p.Wrote())
	}
}

// P9.2: the chapter's example.
func TestExample(t *testing.T) {
	_, v := begun(t, 10, First())
	get(t, v, 1, 8)
	get(t, v, 2, 7)
	done(t, v.Free(1))
	get(t, v, 1, 7)
}

// P9.2: Get without free pages, up to the pool's end; the page isn't turned.
func TestGetNew(t *testing.T) {
	b, v := begun(t, 4, First())
	b.save(1, leaf("stale"))
	get(t, v, 1, 2)
	load(t, v, 1, leaf("stale"))
	get(t, v, 2, 1)
	loadFails(t, v, 2, api.ErrBad)
	loadFails(t, v, 3, api.ErrArg)
	get(t, v, 3, 0)
	for range 2 {
		getFails(t, v, api.ErrFull)
	}
	changed(t, v, Change{0, meta(0, 0, 4, 0)})
	done(t, v.Save(3, leaf("x")))
	done(t, v.Free(3))
	get(t, v, 3, 0)
	getFails(t, v, api.ErrFull)
}

// P9.2: Get at the end of pools of one page, and of as many as there can be.
func TestGetAtEnd(t *testing.T) {
	_, v := begun(t, 1, First())
	if v.Left() != 0 {
		t.Error("Left", v.Left())
	}
	getFails(t, v, api.ErrFull)
	changed(t, v)
	l, _ := wal.Open(disk.New(8), 0, 8)
	p, err := pool.New(disk.New(disk.MaxSectors), l, 0, page.MaxPage, 0)
	if err != api.OK {
		t.Fatal("New", err)
	}
	p.Save(0, meta(0, 0, 65535, 0), 0)
	v, _ = New(p)
	get(t, v, 65535, 0)
	getFails(t, v, api.ErrFull)
	done(t, v.Save(65535, leaf("x")))
	done(t, v.SetRoot(65535))
	changed(t, v, Change{0, meta(65535, 0, 65536, 0)}, Change{65535, leaf("x")})
}

// P9.2: a meta page that tells more pages than the pool has: no new one can be had.
func TestSizeAbovePool(t *testing.T) {
	_, v := begun(t, 4, meta(0, 0, 9, 0))
	getFails(t, v, api.ErrFull)
	loadFails(t, v, 8, api.ErrArg)
	done(t, v.Free(8))
	done(t, v.Save(7, leaf("x")))
	load(t, v, 7, leaf("x"))
	if n, err := v.Get(); n != 8 || err != api.OK {
		t.Error("Get", n, err)
	}
}

// P9.2: Get with free pages of the pool, one behind the other, then without; none of them is turned.
func TestGetFree(t *testing.T) {
	b, v := begun(t, 6, meta(4, 2, 5, 3))
	b.save(2, free(3))
	b.save(3, free(1))
	b.save(1, free(0))
	if v.Left() != 4 {
		t.Error("Left", v.Left())
	}
	get(t, v, 2, 3)
	changed(t, v, Change{0, meta(4, 3, 5, 2)})
	load(t, v, 2, free(3))
	get(t, v, 3, 2)
	get(t, v, 1, 1)
	changed(t, v, Change{0, meta(4, 0, 5, 0)})
	get(t, v, 5, 0)
	getFails(t, v, api.ErrFull)
	changed(t, v, Change{0, meta(4, 0, 6, 0)})
}

// P9.2: pages of the pool and of the View among the free ones; the one that was let go last is had first.
func TestFreeThenGet(t *testing.T) {
	b, v := begun(t, 10, meta(0, 2, 6, 1))
	b.save(2, free(0))
	b.save(3, leaf("x"))
	done(t, v.Free(3))
	if v.Left() != 6 {
		t.Error("Left", v.Left())
	}
	done(t, v.Free(5))
	done(t, v.Free(1))
	if v.Left() != 8 {
		t.Error("Left", v.Left())
	}
	changed(t, v, Change{0, meta(0, 1, 6, 4)}, Change{1, free(5)}, Change{3, free(2)}, Change{5, free(3)})
	for i, want := range []int{1, 5, 3, 2, 6, 7} {
		get(t, v, want, 7-i)
	}
	// What was let go is among the changes, as it is, though it was had again.
	changed(t, v, Change{0, meta(0, 0, 8, 0)}, Change{1, free(5)}, Change{3, free(2)}, Change{5, free(3)})
	done(t, v.Save(3, leaf("y")))
	changed(t, v, Change{0, meta(0, 0, 8, 0)}, Change{1, free(5)}, Change{3, leaf("y")}, Change{5, free(3)})
	b.has(3, leaf("x"))
}

// P9.2: Get where the first free page isn't one, can't be told, or Idle is 0.
func TestGetFails(t *testing.T) {
	for name, c := range map[string]struct {
		meta page.Page
		x    page.Page // page 2
		want api.Errno
	}{
		"a leaf":              {meta(0, 2, 5, 1), leaf("x"), api.ErrBad},
		"an inner page":       {meta(0, 2, 5, 1), page.Page{Kind: page.Inner, Keys: []string{"a"}, Kids: []int{1, 2}}, api.ErrBad},
		"a meta page":         {meta(0, 2, 5, 1), meta(0, 0, 1, 0), api.ErrBad},
		"Idle 0":              {meta(0, 2, 5, 0), free(0), api.ErrBad},
		"Idle 0, and a leaf":  {meta(0, 2, 5, 0), leaf("x"), api.ErrBad},
		"no page":             {meta(0, 3, 5, 1), free(0), api.ErrBad},
		"no page, Idle 0":     {meta(0, 3, 5, 0), free(0), api.ErrBad},
		"torn":                {meta(0, 4, 5, 1), free(0), api.ErrTorn},
		"torn, Idle 0":        {meta(0, 4, 5, 0), free(0), api.ErrTorn},
		"Next is Size":        {meta(0, 5, 5, 1), free(0), api.ErrArg},
		"Next is Size, none":  {meta(0, 5, 5, 0), free(0), api.ErrArg},
		"Next is the most":    {meta(0, 65535, 5, 1), free(0), api.ErrArg},
		"Next is in the pool": {meta(0, 2, 2, 1), free(0), api.ErrArg},
	} {
		b := newBench(t, 10)
		b.d.Write(logSectors+4, nil)
		b.d.On(nil, 0)
		b.save(0, c.meta)
		b.save(2, c.x)
		v := b.view()
		getFails(t, v, c.want)
		getFails(t, v, c.want)
		changed(t, v)
		if t.Failed() {
			t.Fatal(name)
		}
	}
	_, v := begun(t, 10, meta(0, 0, 5, 0))
	done(t, v.Free(2))
	done(t, v.Save(2, leaf("x")))
	getFails(t, v, api.ErrBad)
	done(t, v.Save(2, free(4)))
	get(t, v, 2, 5)
	getFails(t, v, api.ErrBad)
}

// P9.2: no first free page is none, whatever Idle is.
func TestIdleWithoutNext(t *testing.T) {
	_, v := begun(t, 10, meta(0, 0, 5, 2))
	if v.Left() != 7 {
		t.Error("Left", v.Left())
	}
	get(t, v, 5, 6)
	changed(t, v, Change{0, meta(0, 0, 6, 2)})
}

// P9.2: Get's error without power; what the pool holds, and new ones, can be had.
func TestGetDown(t *testing.T) {
	b, v := begun(t, 10, meta(0, 2, 5, 2))
	b.save(2, free(3))
	b.d.Off()
	get(t, v, 2, 6)
	getFails(t, v, api.ErrDown)
	b.d.On(nil, -1)
	b.save(3, free(0))
	get(t, v, 3, 5)
	b.d.Off()
	get(t, v, 5, 4)
}

// P9.2: Free, at the edges.
func TestFree(t *testing.T) {
	b, v := begun(t, 10, meta(4, 0, 5, 0))
	for _, n := range append(wrongNumbers(5), 0) {
		fails(t, v.Free(n))
	}
	if v.Left() != 5 {
		t.Error("Left", v.Left())
	}
	changed(t, v)
	// It needs no look at the page, nor any power.
	b.d.Off()
	done(t, v.Free(1))
	changed(t, v, Change{0, meta(4, 1, 5, 1)}, Change{1, free(0)})
	done(t, v.Free(4))
	changed(t, v, Change{0, meta(4, 4, 5, 2)}, Change{1, free(0)}, Change{4, free(1)})
	if v.Left() != 7 || v.Root() != 4 {
		t.Error("Left, Root", v.Left(), v.Root())
	}
	fails(t, v.Free(5))
	get(t, v, 4, 6)
	get(t, v, 1, 5)
	get(t, v, 5, 4)
	done(t, v.Free(5))
	if v.Left() != 5 {
		t.Error("Left", v.Left())
	}
}

// P9.2: a page that is let go twice tells itself, as the words have it.
func TestFreeTwice(t *testing.T) {
	_, v := begun(t, 10, meta(0, 0, 5, 0))
	done(t, v.Free(3))
	done(t, v.Free(3))
	changed(t, v, Change{0, meta(0, 3, 5, 2)}, Change{3, free(3)})
	get(t, v, 3, 6)
	get(t, v, 3, 5)
	getFails(t, v, api.ErrBad)
}

// P9.2: Root and SetRoot, at the edges.
func TestRoot(t *testing.T) {
	_, v := begun(t, 10, meta(2, 0, 5, 0))
	for _, n := range wrongNumbers(5) {
		fails(t, v.SetRoot(n))
	}
	if v.Root() != 2 || v.Left() != 5 {
		t.Error("Root, Left", v.Root(), v.Left())
	}
	changed(t, v)
	for _, n := range []int{4, 1, 0, 3} {
		done(t, v.SetRoot(n))
		if v.Root() != n || v.Left() != 5 {
			t.Error("Root, Left", v.Root(), v.Left(), n)
		}
		changed(t, v, Change{0, meta(n, 0, 5, 0)})
	}
	fails(t, v.SetRoot(5))
	changed(t, v, Change{0, meta(3, 0, 5, 0)})
	get(t, v, 5, 4)
	done(t, v.SetRoot(5))
	fails(t, v.SetRoot(6))
	changed(t, v, Change{0, meta(5, 0, 6, 0)})
	_, v = begun(t, 10, First())
	fails(t, v.SetRoot(1))
	done(t, v.SetRoot(0))
	// The meta page is among the changes, though it is as it was.
	changed(t, v, Change{0, First()})
}

// P9.3: Changes: none, each page once, by their numbers; the meta page only behind what turns it.
func TestChanges(t *testing.T) {
	_, v := begun(t, 20, meta(0, 0, 15, 0))
	changed(t, v)
	want := []Change{}
	for n := 1; n < 15; n++ {
		want = append(want, Change{n, leaf(fmt.Sprint(n))})
	}
	for _, s := range []string{"x", "y", ""} {
		for i := range 14 {
			n := 1 + i*5%14
			x := leaf(s)
			if s == "" {
				x = leaf(fmt.Sprint(n))
			}
			done(t, v.Save(n, x))
		}
	}
	changed(t, v, want...)
	v.Save(0, leaf("x"))
	v.Free(15)
	v.SetRoot(15)
	v.Load(3)
	v.Root()
	v.Left()
	changed(t, v, want...)
	changed(t, v, want...)
	done(t, v.Free(7))
	want[6].P = free(0)
	changed(t, v, append([]Change{{0, meta(0, 7, 15, 1)}}, want...)...)
}

// P9.3: what a page is Saved as counts, though the pool has the same.
func TestChangesOfTheSame(t *testing.T) {
	b, v := begun(t, 10, meta(0, 0, 5, 0))
	b.save(2, leaf("x"))
	done(t, v.Save(2, leaf("x")))
	changed(t, v, Change{2, leaf("x")})
}

// P9.1: of a nil View ErrArg, 0, none; no call of one that New didn't make panics.
func TestNilView(t *testing.T) {
	for _, v := range []*View{nil, {}} {
		for _, n := range []int{-1, 0, 1} {
			loadFails(t, v, n, api.ErrArg)
			fails(t, v.Save(n, leaf("x")))
			fails(t, v.Free(n))
			fails(t, v.SetRoot(n))
		}
		if v.Left() != 0 || v.Root() != 0 || len(v.Changes()) != 0 {
			t.Error("Left, Root, Changes")
		}
	}
	var v *View
	getFails(t, v, api.ErrArg)
	(&View{}).Get()
}

// P9.2, P9.3, rule 4: what is handed in isn't kept, what is told is new memory.
func TestMemoryIsApart(t *testing.T) {
	spoil := func(x page.Page) {
		x.Keys[0], x.Kids[0] = "x", 9
	}
	fresh := func() page.Page {
		return page.Page{Kind: page.Inner, Keys: []string{"a", "b"}, Kids: []int{1, 2, 3}}
	}
	b, v := begun(t, 10, meta(0, 0, 5, 0))
	b.save(1, fresh())
	x := fresh()
	done(t, v.Save(2, x))
	done(t, v.Save(3, x))
	if !x.Same(fresh()) {
		t.Error("the argument was turned", x)
	}
	spoil(x)
	for range 2 {
		for n := 1; n < 4; n++ {
			load(t, v, n, fresh())
			x, _ := v.Load(n)
			spoil(x)
		}
		changed(t, v, Change{2, fresh()}, Change{3, fresh()})
		for _, c := range v.Changes() {
			spoil(c.P)
		}
	}
	was := v.Changes()
	done(t, v.Free(2))
	if len(was) != 2 || !was[0].P.Same(fresh()) {
		t.Error("an answer was turned", was)
	}
}
