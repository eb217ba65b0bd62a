package pool

import (
	"math/rand"
	"slices"
	"strconv"
	"testing"

	"dockmaster/api"
	"dockmaster/disk"
	"dockmaster/page"
	"dockmaster/wal"
)

// item is a page as a text, with its number.
type item struct {
	n     int
	text  string
	lsn   uint64
	dirty bool
}

// model is a pool told plainly: what is held in the order of its use, and what stands on the disk.
type model struct {
	held  []item
	on    map[int]item
	wrote int
	room  int
}

func (m *model) find(n int) int {
	return slices.IndexFunc(m.held, func(x item) bool { return x.n == n })
}

func (m *model) write(x *item) {
	x.dirty = false
	m.on[x.n] = *x
	m.wrote++
}

// use lets an item be the one that was used last; the first one goes, if there is no room.
func (m *model) use(x item) {
	if at := m.find(x.n); at >= 0 {
		m.held = slices.Delete(m.held, at, at+1)
	} else if len(m.held) == m.room {
		if m.held[0].dirty {
			m.write(&m.held[0])
		}
		m.held = m.held[1:]
	}
	m.held = append(slices.Clone(m.held), x)
}

func (m *model) flush() {
	for i := range m.held {
		if m.held[i].dirty {
			m.write(&m.held[i])
		}
	}
}

// has is what a Load would tell.
func (m *model) has(n int) (item, bool) {
	if at := m.find(n); at >= 0 {
		return m.held[at], true
	}
	x, ok := m.on[n]
	return x, ok
}

func (m *model) dirty() int {
	count := 0
	for _, x := range m.held {
		if x.dirty {
			count++
		}
	}
	return count
}

// P8.2, P8.3, P8.4: many calls, held against a plain model after each.
func TestAgainstModel(t *testing.T) {
	for seed := range int64(60) {
		r := rand.New(rand.NewSource(seed))
		pages := 1 + r.Intn(20)
		room := r.Intn(12)
		b := newBench(t, pages, room)
		m := &model{on: map[int]item{}, room: max(room, 4)}
		for step := range 400 {
			b.any(r, m, strconv.Itoa(step))
			b.counts(len(m.held), m.dirty(), m.wrote)
			for n := range pages {
				x := m.on[n]
				b.stands(n, x.text, x.lsn)
			}
			b.noneAhead(b.l.Safe())
			if t.Failed() {
				t.Fatal("seed", seed, "step", step)
			}
		}
	}
}

// any is one call of the pool, done to the model too.
func (b *bench) any(r *rand.Rand, m *model, text string) {
	b.t.Helper()
	n := r.Intn(b.p.Pages())
	switch r.Intn(12) {
	case 0:
		if err := b.p.Flush(); err != api.OK || b.d.Waits() != 0 {
			b.t.Error("Flush", err)
		}
		m.flush()
	case 1:
		b.l.Cut(b.l.Next())
	case 2, 3, 4, 5:
		x, ok := m.has(n)
		if !ok {
			b.loadFails(n, api.ErrBad)
			return
		}
		b.load(n, x.text, x.lsn)
		m.use(x)
	default:
		lsn, ok := b.entry()
		if !ok {
			return
		}
		b.save(n, text, lsn)
		m.use(item{n, text, lsn, true})
	}
}

// entry is the number of a new entry of the log, if there is room for one.
func (b *bench) entry() (uint64, bool) {
	lsn, err := b.l.Append([]byte("e"))
	if err == api.ErrFull {
		b.l.Cut(b.l.Next())
	}
	return lsn, err == api.OK
}

// noneAhead tells of a page that stands on the disk, and whose entry isn't safe.
func (b *bench) noneAhead(safe uint64) {
	b.t.Helper()
	for n := range b.p.Pages() {
		bytes, err := b.d.Read(logSectors + n)
		if err != api.OK {
			continue
		}
		if x, lsn, err := page.Decode(bytes); err == api.OK && lsn >= safe {
			b.t.Error("page", n, "stands ahead of its entry", x, lsn, safe)
		}
	}
}

// P8.4: a loss of power at any step, whatever stays: no page on the disk is ahead of the log that is found there, and what was Flushed is there, or what came behind it.
func TestLosses(t *testing.T) {
	for seed := range int64(300) {
		r := rand.New(rand.NewSource(seed))
		b := newBench(t, 12, r.Intn(8))
		for range 12 {
			flushed := b.work(r)
			keep := make([]bool, b.d.Waits())
			for i := range keep {
				keep[i] = r.Intn(2) == 0
			}
			b.d.On(keep, -1)
			l, err := wal.Open(b.d, 0, logSectors)
			if err != api.OK {
				t.Fatal("Open", err)
			}
			b.l = l
			b.anew(12, r.Intn(8))
			b.noneAhead(l.Next())
			for n, lsn := range flushed {
				if _, got, err := b.p.Load(n); err != api.OK || got < lsn {
					t.Error("page", n, "is lost", got, lsn, err)
				}
			}
			if t.Failed() {
				t.Fatal("seed", seed)
			}
		}
	}
}

// work is calls up to a loss of power; it tells the numbers of the pages that were safe.
func (b *bench) work(r *rand.Rand) map[int]uint64 {
	b.t.Helper()
	saved, flushed := map[int]uint64{}, map[int]uint64{}
	b.d.Fuse(1 + r.Intn(60))
	for {
		lsn, ok := b.entry()
		if b.d.Down() {
			return flushed
		}
		n := r.Intn(b.p.Pages())
		if ok && b.p.Save(n, leaf("x"), lsn) == api.OK {
			saved[n] = lsn
		}
		if r.Intn(6) == 0 && b.p.Flush() == api.OK {
			for n, lsn := range saved {
				flushed[n] = lsn
			}
		}
		if b.d.Down() {
			return flushed
		}
	}
}

// P8.4: what was Saved last is told, whatever is written in between: room is made by Loads and Saves, and all is Flushed.
func TestSavedLast(t *testing.T) {
	b := newBench(t, 40, 4)
	last := map[int]int{}
	for step := range 2000 {
		n := step * 7 % 40
		lsn, ok := b.entry()
		if !ok {
			continue
		}
		b.save(n, strconv.Itoa(step), lsn)
		last[n] = step
		for _, n := range []int{step % 40, step / 3 % 40, step / 40 % 40} {
			if at, ok := last[n]; ok {
				x, _, err := b.p.Load(n)
				if err != api.OK || !x.Same(leaf(strconv.Itoa(at))) {
					t.Fatal("Load", n, x, err, "want", at)
				}
			}
		}
		if step%97 == 0 {
			b.p.Flush()
		}
	}
}

// P8.1, P8.2: as many pages as there can be, many of them held: each use must be quick.
func TestManyPages(t *testing.T) {
	d := disk.New(disk.MaxSectors)
	l, _ := wal.Open(disk.New(8), 0, 8)
	p, err := New(d, l, 0, page.MaxPage, page.MaxPage/2)
	if err != api.OK {
		t.Fatal("New", err)
	}
	for n := range page.MaxPage {
		if err := p.Save(n, page.Page{Kind: page.Free, Next: n}, 0); err != api.OK {
			t.Fatal("Save", n, err)
		}
	}
	for n := range page.MaxPage {
		if x, _, err := p.Load(n); err != api.OK || x.Next != n {
			t.Fatal("Load", n, x, err)
		}
	}
	if p.Held() != page.MaxPage/2 || p.Dirty() != 0 || p.Wrote() != page.MaxPage {
		t.Error("held, dirty, wrote", p.Held(), p.Dirty(), p.Wrote())
	}
}
