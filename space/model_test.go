package space

import (
	"fmt"
	"maps"
	"math/rand"
	"slices"
	"testing"

	"dockmaster/api"
	"dockmaster/page"
)

// model is a View told plainly: the free pages as a list, the first one last.
type model struct {
	pages int
	size  int
	root  int
	free  []int
	had   map[int]page.Page // what can be Loaded
	aside map[int]page.Page // what was Saved or let go
	meta  bool
}

func (m *model) left() int {
	return m.pages - m.size + len(m.free)
}

func (m *model) first() int {
	if len(m.free) == 0 {
		return 0
	}
	return m.free[len(m.free)-1]
}

func (m *model) save(n int, x page.Page) {
	m.had[n], m.aside[n] = x, x
}

func (m *model) get() (int, bool) {
	n := m.first()
	switch {
	case n > 0:
		m.free = m.free[:len(m.free)-1]
	case m.size < m.pages:
		n = m.size
		m.size++
	default:
		return 0, false
	}
	m.meta = true
	return n, true
}

func (m *model) letGo(n int) {
	m.save(n, free(m.first()))
	m.free = append(m.free, n)
	m.meta = true
}

func (m *model) changes() []Change {
	all := maps.Clone(m.aside)
	if m.meta {
		all[0] = meta(m.root, m.first(), m.size, len(m.free))
	}
	out := []Change{}
	for _, n := range slices.Sorted(maps.Keys(all)) {
		out = append(out, Change{n, all[n]})
	}
	return out
}

// P9.2, P9.3: many calls, held against a plain model after each; now and then what was done is laid in the pool, and a new View begun.
func TestAgainstModel(t *testing.T) {
	for seed := range int64(80) {
		r := rand.New(rand.NewSource(seed))
		pages := 1 + r.Intn(14)
		b, v := begun(t, pages, First())
		m := &model{pages: pages, size: 1, had: map[int]page.Page{}, aside: map[int]page.Page{}}
		for step := range 300 {
			anyCall(t, r, v, m, fmt.Sprint(step))
			changed(t, v, m.changes()...)
			if v.Left() != m.left() || v.Root() != m.root {
				t.Error("Left, Root", v.Left(), v.Root(), "want", m.left(), m.root)
			}
			if r.Intn(20) == 0 {
				for _, c := range v.Changes() {
					b.save(c.N, c.P)
				}
				v = b.view()
				m.aside, m.meta = map[int]page.Page{}, false
			}
			if t.Failed() {
				t.Fatal("seed", seed, "step", step)
			}
		}
	}
}

// anyCall is one call, done to the model too.
func anyCall(t *testing.T, r *rand.Rand, v *View, m *model, text string) {
	t.Helper()
	n := r.Intn(m.size + 1)
	within := n > 0 && n < m.size
	switch r.Intn(6) {
	case 0, 1:
		want, ok := m.get()
		if !ok {
			getFails(t, v, api.ErrFull)
			return
		}
		get(t, v, want, m.left())
	case 2:
		if slices.Contains(m.free, n) {
			return
		}
		if err := v.Free(n); (err == api.OK) != within {
			t.Error("Free", n, err)
		}
		if within {
			m.letGo(n)
		}
	case 3:
		if err := v.SetRoot(n); (err == api.OK) != (n < m.size) {
			t.Error("SetRoot", n, err)
		} else if err == api.OK {
			m.root, m.meta = n, true
		}
	case 4:
		if slices.Contains(m.free, n) {
			return
		}
		if err := v.Save(n, leaf(text)); (err == api.OK) != within {
			t.Error("Save", n, err)
		}
		if within {
			m.save(n, leaf(text))
		}
	default:
		x, ok := m.had[n]
		switch {
		case !within:
			loadFails(t, v, n, api.ErrArg)
		case !ok:
			loadFails(t, v, n, api.ErrBad)
		default:
			load(t, v, n, x)
		}
	}
}
