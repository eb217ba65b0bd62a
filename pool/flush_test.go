package pool

import (
	"testing"

	"dockmaster/api"
	"dockmaster/disk"
	"dockmaster/page"
	"dockmaster/wal"
)

// P8.2: Flush writes what is dirty, and all is safe then; without dirty pages it is a Sync.
func TestFlush(t *testing.T) {
	b := newBench(t, 10, 6)
	b.lay(7, "laid", 0)
	for _, n := range []int{5, 1, 3} {
		b.save(n, "x", uint64(n))
	}
	b.load(7, "laid", 0)
	b.counts(4, 3, 0)
	steps := b.d.Steps()
	if err := b.p.Flush(); err != api.OK {
		t.Fatal("Flush", err)
	}
	b.counts(4, 0, 3)
	if b.d.Steps() != steps+4 || b.d.Waits() != 0 {
		t.Error("steps", b.d.Steps()-steps, b.d.Waits())
	}
	b.d.Write(0, nil)
	if err := b.p.Flush(); err != api.OK || b.d.Steps() != steps+6 || b.d.Waits() != 0 {
		t.Error("Flush of nothing", err, b.d.Steps()-steps, b.d.Waits())
	}
	b.counts(4, 0, 3)
	b.d.On(nil, -1)
	for _, n := range []int{5, 1, 3} {
		b.stands(n, "x", uint64(n))
	}
	b.holds(1, 3, 5, 7)
}

// P8.2: Flush isn't a use: which page is let go hangs on Loads and Saves alone.
func TestFlushIsNoUse(t *testing.T) {
	b := newBench(t, 10, 4)
	for _, n := range []int{3, 2, 1, 0} {
		b.save(n, "x", 0)
	}
	b.p.Flush()
	b.save(4, "x", 0)
	b.holds(0, 1, 2, 4)
}

// P8.2: the dirty pages are written by their numbers: of the writes that wait when the Sync fails the i-th is kept.
func TestFlushOrder(t *testing.T) {
	order := []int{0, 1, 4, 6, 9}
	for i, kept := range order {
		b := newBench(t, 10, 8)
		for _, n := range []int{6, 1, 9, 0, 4} {
			b.save(n, "x", 0)
		}
		b.lay(2, "laid", 0)
		b.load(2, "laid", 0)
		b.d.Sync()
		b.d.Fuse(len(order) + 1)
		if err := b.p.Flush(); err != api.ErrDown || b.d.Waits() != len(order) {
			t.Fatal("Flush", err, b.d.Waits())
		}
		keep := make([]bool, len(order))
		keep[i] = true
		b.d.On(keep, -1)
		for _, n := range order {
			if n == kept {
				b.stands(n, "x", 0)
			} else {
				b.stands(n, "", 0)
			}
		}
	}
}

// P8.2: the first error of a Flush, at each of its steps: those ahead are written, it and those behind it aren't.
func TestFlushFails(t *testing.T) {
	for fuse, wrote := range []int{0, 0, 1, 1, 2, 3} {
		b := newBench(t, 10, 4)
		b.append(2)
		b.l.Force()
		b.append(2)
		// A write; a Force, and a write; a write; the Sync.
		b.save(8, "c", 3)
		b.save(5, "b", 2)
		b.save(2, "a", 1)
		if fuse == 0 {
			b.d.Off()
		}
		b.d.Fuse(fuse)
		if err := b.p.Flush(); err != api.ErrDown {
			t.Error("Flush", fuse, err)
		}
		b.counts(3, 3-wrote, wrote)
		if forced := b.l.Safe() == 4; forced != (fuse > 2) {
			t.Error("forced", fuse, b.l.Safe())
		}
		if err := b.p.Flush(); err != api.ErrDown {
			t.Error("Flush without power", fuse, err)
		}
		b.load(2, "a", 1)
		b.load(5, "b", 2)
		b.load(8, "c", 3)
	}
	b := newBench(t, 10, 4)
	b.d.Off()
	if err := b.p.Flush(); err != api.ErrDown {
		t.Error("Flush of nothing without power", err)
	}
}

// P8.2: a log on a disk of its own that has lost its power: what is less than Safe can be written, nothing else.
func TestLogDown(t *testing.T) {
	d, own := disk.New(10), disk.New(10)
	l, _ := wal.Open(own, 0, 10)
	p, err := New(d, l, 0, 10, 4)
	if err != api.OK {
		t.Fatal("New", err)
	}
	l.Append([]byte("e"))
	l.Force()
	l.Append([]byte("f"))
	for n, lsn := range []uint64{0, 0, 1, 0} {
		p.Save(n, leaf("x"), lsn)
	}
	own.Off()
	if err := p.Save(4, leaf("x"), 0); err != api.OK || p.Wrote() != 1 {
		t.Error("Save", err, p.Wrote())
	}
	if err := p.Flush(); err != api.ErrDown || p.Wrote() != 2 || p.Dirty() != 3 || d.Steps() != 2 {
		t.Error("Flush", err, p.Wrote(), p.Dirty(), d.Steps())
	}
	if err := p.Save(5, leaf("x"), 0); err != api.OK || p.Wrote() != 2 {
		t.Error("Save", err, p.Wrote())
	}
	if err := p.Save(6, leaf("x"), 0); err != api.ErrDown || p.Held() != 4 || p.Wrote() != 2 {
		t.Error("Save", err, p.Held(), p.Wrote())
	}
	if _, _, err := p.Load(0); err != api.ErrDown {
		t.Error("Load", err)
	}
	own.On(nil, -1)
	if err := p.Flush(); err != api.OK || p.Dirty() != 0 || l.Safe() != 2 || d.Waits() != 0 {
		t.Error("Flush", err, p.Dirty(), l.Safe(), d.Waits())
	}
}

// P8.3: of a nil Pool 0, ErrArg; no call of one that New didn't make panics.
func TestNilPool(t *testing.T) {
	for _, p := range []*Pool{nil, {}} {
		for _, n := range []int{-1, 0, 1} {
			if x, lsn, err := p.Load(n); err != api.ErrArg || lsn != 0 || !x.Same(page.Page{}) {
				t.Error("Load", x, lsn, err)
			}
			if err := p.Save(n, leaf("x"), 0); err != api.ErrArg {
				t.Error("Save", err)
			}
		}
		if err := p.Flush(); err != api.ErrArg {
			t.Error("Flush", err)
		}
		if p.Pages() != 0 || p.Held() != 0 || p.Dirty() != 0 || p.Wrote() != 0 {
			t.Error("Pages, Held, Dirty, Wrote")
		}
	}
}

// P8.2, rule 4: what is handed in isn't kept, what is told is new memory.
func TestMemoryIsApart(t *testing.T) {
	spoil := func(x page.Page) {
		x.Keys[0], x.Keys[1], x.Kids[0] = "x", "y", 9
	}
	fresh := func() page.Page {
		return page.Page{Kind: page.Inner, Keys: []string{"a", "b"}, Kids: []int{1, 2, 3}}
	}
	b := newBench(t, 10, 4)
	x := fresh()
	b.p.Save(1, x, 0)
	if !x.Same(fresh()) {
		t.Error("the argument was turned", x)
	}
	spoil(x)
	same := func() {
		t.Helper()
		for range 2 {
			x, _, err := b.p.Load(1)
			if err != api.OK || !x.Same(fresh()) {
				t.Fatal("Load", x, err)
			}
			spoil(x)
		}
	}
	same()
	b.p.Flush()
	same()
	b.anew(10, 4)
	same()
}
