package tree

import (
	"fmt"
	"math/rand"
	"slices"
	"strings"
	"testing"

	"dockmaster/api"
	"dockmaster/disk"
	"dockmaster/key"
	"dockmaster/page"
	"dockmaster/pool"
	"dockmaster/space"
	"dockmaster/wal"
)

const logSectors = 20

// bench is a pool with so many pages, and a View of it.
type bench struct {
	t *testing.T
	d *disk.Disk
	p *pool.Pool
	v *space.View
}

func newBench(t *testing.T, pages int) *bench {
	t.Helper()
	b := &bench{t: t, d: disk.New(logSectors + pages)}
	l, _ := wal.Open(b.d, 0, logSectors)
	p, err := pool.New(b.d, l, logSectors, pages, pool.Least)
	if err != api.OK {
		t.Fatal("New", err)
	}
	b.p = p
	p.Save(0, space.First(), 0)
	b.anew()
	return b
}

// anew begins a View of the pool as it is.
func (b *bench) anew() {
	b.t.Helper()
	v, err := space.New(b.p)
	if err != api.OK {
		b.t.Fatal("New", err)
	}
	b.v = v
}

// settle lays what was done to the View in the pool.
func (b *bench) settle() {
	b.t.Helper()
	for _, c := range b.v.Changes() {
		if err := b.p.Save(c.N, c.P, 0); err != api.OK {
			b.t.Fatal("Save", c.N, err)
		}
	}
	b.anew()
}

// stands holds the tree against a map, and how many pages it has against how many are left.
func (b *bench) stands(m key.Map) {
	b.t.Helper()
	sound(b.t, b.v, m)
	if n, _, _ := Check(b.v); n+b.v.Left() != b.p.Pages()-1 {
		b.t.Error("pages", n, "left", b.v.Left(), "of", b.p.Pages())
	}
}

// orders are ways to put so many things one behind the other.
func orders(count int) map[string][]int {
	up := make([]int, count)
	for i := range up {
		up[i] = i
	}
	down := slices.Clone(up)
	slices.Reverse(down)
	ends := []int{}
	for i := range count / 2 {
		ends = append(ends, i, count-1-i)
	}
	middle := slices.Clone(ends)
	slices.Reverse(middle)
	return map[string][]int{"up": up, "down": down, "ends": ends, "middle": middle, "any": rand.New(rand.NewSource(4)).Perm(count)}
}

// P10.4: many keys put in one order and dropped in another, with a look at the whole behind each step.
func TestOrders(t *testing.T) {
	const count = 150
	for first, put := range orders(count) {
		for second, drop := range orders(count) {
			b, m := newBench(t, 200), key.Map{}
			for _, i := range put {
				k, v := fmt.Sprintf("%03d", i), fmt.Sprint(i)
				puts(t, b.v, k, v, api.OK)
				m = m.With(k, v)
				gets(t, b.v, k, v)
				b.stands(m)
			}
			if _, deep, _ := Check(b.v); deep < 3 {
				t.Error("deep", deep)
			}
			for _, i := range drop {
				k := fmt.Sprintf("%03d", i)
				drops(t, b.v, k, true, api.OK)
				m = m.Without(k)
				getsNone(t, b.v, k, api.OK)
				b.stands(m)
			}
			if n, deep, err := Check(b.v); n != 1 || deep != 1 || err != api.OK || b.v.Left() != 198 {
				t.Error("at the end", n, deep, err, b.v.Left())
			}
			if t.Failed() {
				t.Fatal("put", first, "dropped", second)
			}
		}
	}
}

// someKey is a right key, of few ones, so that many are met again; some are long, some of odd bytes.
func someKey(r *rand.Rand, of int) string {
	i := r.Intn(of)
	switch i % 5 {
	case 0:
		return strings.Repeat("k", api.MaxKey-3) + fmt.Sprintf("%03d", i)
	case 1:
		return string([]byte{byte(i), 0})
	case 2:
		return string([]byte{byte(i), 0xff, byte(i >> 3)})
	}
	return fmt.Sprint(i)
}

// P10.1, P10.4: random Puts and Drops, now more of these, now of those, held against a map behind each; now and then what was done is laid in the pool.
func TestAgainstModel(t *testing.T) {
	for seed := range int64(40) {
		r := rand.New(rand.NewSource(seed))
		of := []int{6, 20, 80, 400}[seed%4]
		b, m := newBench(t, 300), key.Map{}
		for step := range 600 {
			k := someKey(r, of)
			old, has := m.Get(k)
			if r.Intn(10) < []int{8, 2, 5}[step/100%3] {
				v := strings.Repeat("v", r.Intn(api.MaxVal-3)) + fmt.Sprint(step)
				puts(t, b.v, k, v, api.OK)
				m = m.With(k, v)
			} else {
				drops(t, b.v, k, has, api.OK)
				m = m.Without(k)
			}
			now, stands := m.Get(k)
			if v, ok, err := Get(b.v, k); v != now || ok != stands || err != api.OK {
				t.Error("Get", k, v, ok, err, "was", old, "want", now, stands)
			}
			b.stands(m)
			if r.Intn(30) == 0 {
				b.settle()
				b.stands(m)
			}
			if t.Failed() {
				t.Fatal("seed", seed, "step", step)
			}
		}
	}
}

// P10.4: a tree on a desk that shares its memory stays as it was handed in.
func TestSharedMemory(t *testing.T) {
	r := rand.New(rand.NewSource(9))
	d, m := newDesk(0, nil), key.Map{}
	for step := range 1500 {
		k := someKey(r, 120)
		if _, has := m.Get(k); r.Intn(5) < 2+step/500%2 {
			puts(t, d, k, "v", api.OK)
			m = m.With(k, "v")
		} else {
			drops(t, d, k, has, api.OK)
			m = m.Without(k)
		}
		d.unturned(t)
		sound(t, d, m)
		if t.Failed() {
			t.Fatal("step", step)
		}
	}
}

// P10.2: where no page can be had Put answers that; the pool's pages are as they were.
func TestFull(t *testing.T) {
	for size := 1; size <= 30; size++ {
		b, m := newBench(t, size), key.Map{}
		for i := range 200 {
			k := fmt.Sprintf("%03d", i)
			err := Put(b.v, k, "v")
			if err != api.OK {
				if err != api.ErrFull {
					t.Error("Put", k, err)
				}
				b.anew()
				break
			}
			m = m.With(k, "v")
			b.settle()
		}
		b.stands(m)
		if len(m) == 200 || b.v.Left() > 5 {
			t.Error("size", size, "keys", len(m), "left", b.v.Left())
		}
	}
}

// P10.1, P10.3: the disk's errors come through a View.
func TestDiskErrors(t *testing.T) {
	b, m := newBench(t, 100), key.Map{}
	for i := range 100 {
		k := fmt.Sprintf("%03d", i)
		puts(t, b.v, k, "v", api.OK)
		m = m.With(k, "v")
	}
	b.settle()
	b.p.Flush()
	b.anew()
	b.d.Off()
	for _, k := range []string{"000", "050", "099"} {
		if _, _, err := Get(b.v, k); err != api.OK && err != api.ErrDown {
			t.Error("Get", k, err)
		}
	}
	checks(t, "without power", b.v, 0, 0, api.ErrDown)
	if n := len(Map(b.v)); n >= len(m) {
		t.Error("Map", n)
	}
}

// Rule 1, and a nil View: it has no root, and no page can be had.
func TestNilView(t *testing.T) {
	var v *space.View
	getsNone(t, v, "a", api.OK)
	puts(t, v, "a", "v", api.ErrArg)
	drops(t, v, "a", false, api.OK)
	checks(t, "a nil View", v, 0, 0, api.OK)
	if m := Map(v); len(m) != 0 {
		t.Error("Map", m)
	}
}

// anyPage is one of any kind, with lists of any length, that leads to any of a few pages.
func anyPage(r *rand.Rand) page.Page {
	p := page.Page{Kind: []int{page.Leaf, page.Inner, page.Inner, r.Intn(7) - 1}[r.Intn(4)], Next: r.Intn(3)}
	at := 0
	for range r.Intn(10) {
		at += r.Intn(4)
		p.Keys = append(p.Keys, fmt.Sprintf("%02d", at))
	}
	size := len(p.Keys)
	if r.Intn(8) == 0 {
		size = r.Intn(12)
	}
	if p.Kind == page.Leaf || r.Intn(20) == 0 {
		p.Vals = slices.Repeat([]string{"v"}, size)
	}
	if p.Kind == page.Inner || r.Intn(20) == 0 {
		for range size + 1 {
			p.Kids = append(p.Kids, r.Intn(14)-1)
		}
	}
	return p
}

// Rule 1: no call panics, and each ends, on pages of any kind.
func TestAnyPages(t *testing.T) {
	for seed := range int64(400) {
		r := rand.New(rand.NewSource(seed))
		all := pages{}
		for n := range 12 {
			all[n] = anyPage(r)
		}
		d := newDesk(r.Intn(13), all)
		d.any = r.Intn(2) == 0
		for range 20 {
			k := fmt.Sprintf("%02d", r.Intn(20))
			Get(d, k)
			Put(d, k, "w")
			Drop(d, k)
			Check(d)
			d.unturned(t)
		}
		if seed%20 == 0 {
			Map(d)
		}
	}
}
