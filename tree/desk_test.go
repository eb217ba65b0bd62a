package tree

import (
	"fmt"
	"maps"
	"strings"
	"testing"

	"dockmaster/api"
	"dockmaster/key"
	"dockmaster/page"
)

// pages are pages by their numbers.
type pages map[int]page.Page

// desk is Pages that keep and hand out pages without copying them, write down what is called, and fail where they are told to.
type desk struct {
	has   pages
	kept  pages // the same, apart: what was handed in, or out, may not be turned
	root  int
	size  int
	free  []int
	any   bool // whether Save takes any page, anywhere
	calls []string
	fails map[string]api.Errno // by what is called
	last  int                  // the call that fails, the first one is 1
	err   api.Errno            // how it fails
}

func newDesk(root int, has pages) *desk {
	d := &desk{has: pages{}, kept: pages{}, root: root, size: 1, fails: map[string]api.Errno{}}
	for n, p := range has {
		d.lay(n, p.Clone())
		d.size = max(d.size, n+1)
	}
	return d
}

func (d *desk) lay(n int, p page.Page) {
	d.has[n], d.kept[n] = p, p.Clone()
}

// call writes down a call; its error.
func (d *desk) call(what ...any) api.Errno {
	text := strings.TrimSpace(fmt.Sprintln(what...))
	d.calls = append(d.calls, text)
	if len(d.calls) == d.last {
		return d.err
	}
	return d.fails[text]
}

func (d *desk) Load(n int) (page.Page, api.Errno) {
	if err := d.call("Load", n); err != api.OK {
		return page.Page{}, err
	}
	p, ok := d.has[n]
	if !ok {
		return page.Page{}, api.ErrArg
	}
	return p, api.OK
}

func (d *desk) Save(n int, x page.Page) api.Errno {
	if err := d.call("Save", n); err != api.OK {
		return err
	}
	if !d.any && (n < 1 || n >= d.size || !x.Right()) {
		return api.ErrArg
	}
	d.lay(n, x)
	return api.OK
}

func (d *desk) Get() (int, api.Errno) {
	if err := d.call("Get"); err != api.OK {
		return 0, err
	}
	if last := len(d.free) - 1; last >= 0 {
		n := d.free[last]
		d.free = d.free[:last]
		return n, api.OK
	}
	d.size++
	return d.size - 1, api.OK
}

func (d *desk) Free(n int) api.Errno {
	if err := d.call("Free", n); err != api.OK {
		return err
	}
	d.lay(n, page.Page{Kind: page.Free})
	d.free = append(d.free, n)
	return api.OK
}

func (d *desk) Root() int { return d.root }

func (d *desk) SetRoot(n int) api.Errno {
	if err := d.call("SetRoot", n); err != api.OK {
		return err
	}
	d.root = n
	return api.OK
}

// holds holds the pages against what is expected, those that are free left out.
func (d *desk) holds(t *testing.T, root int, want pages) {
	t.Helper()
	got := maps.Clone(d.has)
	maps.DeleteFunc(got, func(_ int, p page.Page) bool { return p.Kind == page.Free })
	if d.root != root || !maps.EqualFunc(got, want, page.Page.Same) {
		t.Errorf("root %d, %v\nwant %d, %v", d.root, got, root, want)
	}
	d.unturned(t)
}

// unturned tells where a page was turned past Save.
func (d *desk) unturned(t *testing.T) {
	t.Helper()
	for n, p := range d.has {
		if !p.Same(d.kept[n]) {
			t.Error("page", n, "was turned", p, d.kept[n])
		}
	}
}

// valueOf is what stands under a key, unless it was Put otherwise.
func valueOf(k string) string { return "=" + k }

// leaf is one with each letter as a key.
func leaf(letters string) page.Page {
	p := page.Page{Kind: page.Leaf}
	for _, k := range strings.Split(letters, "") {
		p.Keys = append(p.Keys, k)
		p.Vals = append(p.Vals, valueOf(k))
	}
	return p
}

// inner is one with each letter as a key between the pages beneath it.
func inner(letters string, kids ...int) page.Page {
	p := page.Page{Kind: page.Inner, Kids: kids}
	if letters != "" {
		p.Keys = strings.Split(letters, "")
	}
	return p
}

// leaves are such, one behind the other, from a number on.
func leaves(from int, texts ...string) pages {
	all := pages{}
	for i, s := range texts {
		all[from+i] = leaf(s)
	}
	return all
}

// with is pages, with others laid over them.
func with(all ...pages) pages {
	out := pages{}
	for _, p := range all {
		maps.Copy(out, p)
	}
	return out
}

// mapOf is each letter, and what stands under it.
func mapOf(letters string) key.Map {
	m := key.Map{}
	for _, k := range strings.Split(letters, "") {
		if k != "" {
			m = m.With(k, valueOf(k))
		}
	}
	return m
}

// found is what is told of pages by going through them as the document says what a tree is, without a way, a span or a bound.
type found struct {
	pages int
	deep  int
	keys  []string
}

// seen is what is at a page and beneath it; false, if it isn't a tree's.
func seen(s Pages, n, deep int) (found, bool) {
	p, err := s.Load(n)
	if n == 0 || deep > MostDeep || err != api.OK || !p.Right() {
		return found{}, false
	}
	switch {
	case p.Kind == page.Leaf:
		return found{1, 1, p.Keys}, deep == 1 || len(p.Keys) >= 3
	case p.Kind != page.Inner || deep > 1 && len(p.Kids) < 4:
		return found{}, false
	}
	all := found{pages: 1}
	for i, kid := range p.Kids {
		f, ok := seen(s, kid, deep+1)
		if !ok || i > 0 && f.deep+1 != all.deep {
			return found{}, false
		}
		for _, k := range f.keys {
			if i > 0 && k < p.Keys[i-1] || i < len(p.Keys) && k >= p.Keys[i] {
				return found{}, false
			}
		}
		all = found{all.pages + f.pages, f.deep + 1, append(all.keys, f.keys...)}
	}
	return all, true
}

// sound tells whether pages are a tree with just these keys, by what is seen and by all that goes through them.
func sound(t *testing.T, s Pages, want key.Map) {
	t.Helper()
	all, ok := found{}, true
	if s.Root() != 0 {
		all, ok = seen(s, s.Root(), 1)
	}
	if !ok || len(all.keys) != len(want) {
		t.Error("isn't a tree with", len(want), "keys:", ok, all)
	}
	if n, deep, err := Check(s); n != all.pages || deep != all.deep || err != api.OK {
		t.Error("Check", n, deep, err, "want", all.pages, all.deep)
	}
	if m := Map(s); !m.Same(want) {
		t.Error("Map", m, "want", want)
	}
}

func gets(t *testing.T, s Pages, k, want string) {
	t.Helper()
	if v, ok, err := Get(s, k); v != want || !ok || err != api.OK {
		t.Errorf("Get %q: %q %v %v, want %q", k, v, ok, err, want)
	}
}

// getsNone asks for what isn't told, without an error or with one.
func getsNone(t *testing.T, s Pages, k string, want api.Errno) {
	t.Helper()
	if v, ok, err := Get(s, k); v != "" || ok || err != want {
		t.Errorf("Get %q: %q %v %v, want %v", k, v, ok, err, want)
	}
}

func puts(t *testing.T, s Pages, k, v string, want api.Errno) {
	t.Helper()
	if err := Put(s, k, v); err != want {
		t.Errorf("Put %q %q: %v, want %v", k, v, err, want)
	}
}

func drops(t *testing.T, s Pages, k string, was bool, want api.Errno) {
	t.Helper()
	if ok, err := Drop(s, k); ok != was || err != want {
		t.Errorf("Drop %q: %v %v, want %v %v", k, ok, err, was, want)
	}
}
