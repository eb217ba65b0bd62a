package wal

import (
	"fmt"
	"math/rand"
	"slices"
	"testing"

	"dockmaster/api"
	"dockmaster/disk"
)

// told is what calls have told of a log, so that what is found behind a loss of power can be held against it.
type told struct {
	t    *testing.T
	d    *disk.Disk
	from int
	n    int
	l    *Log

	entries []item // from start on; the last may be one whose Append was cut off
	start   uint64
	cut     uint64 // where a Cut was cut off; else start
	life    uint64
}

// reopen opens the log, as it is expected to, and holds it against what was told.
func (w *told) reopen() {
	w.t.Helper()
	safe := w.start
	if w.l != nil {
		safe = w.l.Safe()
	}
	w.l = open(w.t, w.d, w.from, w.n)
	start := w.l.Start()
	if start != w.start && start != w.cut {
		w.t.Fatal("start", start, "want", w.start, "or", w.cut)
	}
	if w.l.Life() <= w.life {
		w.t.Fatal("life", w.l.Life(), "behind", w.life)
	}
	w.drop(start)
	found := items(w.l, start)
	if len(found) > len(w.entries) || !slices.Equal(found, w.entries[:len(found)]) {
		w.t.Fatalf("found %.90s, want the first ones of %.90s", fmt.Sprint(found), fmt.Sprint(w.entries))
	}
	if len(found) < len(w.entries) && w.entries[len(found)].number < safe {
		w.t.Fatal("what was safe is lost", w.entries[len(found)].number, safe)
	}
	next := start
	if len(found) > 0 {
		last := found[len(found)-1]
		next = last.number + uint64(Need(len(last.text)))
	}
	stands(w.t, w.l, start, next, next, w.l.Life())
	w.entries, w.start, w.cut, w.life = found, start, start, w.l.Life()
}

// reopenAll opens the log where no power has gone: all is there.
func (w *told) reopenAll() {
	w.t.Helper()
	w.d.Fuse(0)
	all := len(w.entries)
	w.reopen()
	if len(w.entries) != all {
		w.t.Fatal("found", len(w.entries), "of", all)
	}
}

// openCut lets the power go while the log is opened: nothing is told by that.
func (w *told) openCut(fuse int) {
	w.t.Helper()
	w.d.Fuse(fuse)
	if l, err := Open(w.d, w.from, w.n); err != api.ErrDown || l == nil {
		w.t.Fatal("Open", err)
	}
}

func (w *told) append(s string) api.Errno {
	w.t.Helper()
	next, free := w.l.Next(), w.l.Free()
	n, err := w.l.Append([]byte(s))
	switch {
	case err == api.OK && n != next:
		w.t.Fatal("Append", n, next)
	case (err == api.ErrFull) != (Need(len(s)) > free):
		w.t.Fatal("Append", err, len(s), free)
	case err == api.OK || err == api.ErrDown:
		w.entries = append(w.entries, item{next, s})
	}
	return err
}

func (w *told) cutAt(lsn uint64) api.Errno {
	w.t.Helper()
	err := w.l.Cut(lsn)
	w.cut = lsn
	if err == api.OK {
		w.drop(lsn)
		w.start = lsn
	}
	return err
}

// drop forgets the entries ahead of a number.
func (w *told) drop(lsn uint64) {
	for len(w.entries) > 0 && w.entries[0].number < lsn {
		w.entries = w.entries[1:]
	}
}

// works are some calls each, up to one that answers ErrDown.
func works() map[string]func(w *told) api.Errno {
	inTurn := func(calls ...func() api.Errno) api.Errno {
		for _, call := range calls {
			if err := call(); err != api.OK {
				return err
			}
		}
		return api.OK
	}
	return map[string]func(w *told) api.Errno{
		"append": func(w *told) api.Errno {
			return inTurn(
				func() api.Errno { return w.append("a") },
				func() api.Errno { return w.append(long("b", Chunk+1)) },
				func() api.Errno { return w.append("") },
				func() api.Errno { return w.append("d") },
			)
		},
		"force": func(w *told) api.Errno {
			return inTurn(
				func() api.Errno { return w.append("a") },
				func() api.Errno { return w.l.Force() },
				func() api.Errno { return w.append(long("b", 2*Chunk)) },
				func() api.Errno { return w.append("c") },
				func() api.Errno { return w.l.Force() },
				func() api.Errno { return w.append("d") },
			)
		},
		"cut": func(w *told) api.Errno {
			return inTurn(
				func() api.Errno { return w.append(long("a", 2*Chunk)) },
				func() api.Errno { return w.append("b") },
				func() api.Errno { return w.append("c") },
				func() api.Errno { return w.cutAt(w.l.Next() - 1) },
				func() api.Errno { return w.append(long("d", 3*Chunk)) },
				func() api.Errno { return w.cutAt(w.l.Next()) },
				func() api.Errno { return w.append("e") },
				func() api.Errno { return w.append("f") },
			)
		},
	}
}

// kept is the i-th way of keeping some of so many writes.
func kept(i, waits int) []bool {
	keep := make([]bool, waits)
	for j := range keep {
		keep[j] = i>>j&1 == 1
	}
	return keep
}

// lose does the calls up to a loss of power at a step, of which a way of keeping and a tear are taken, and looks at what is left; it tells how many writes waited, and whether the power went at all.
func lose(t *testing.T, work func(w *told) api.Errno, fuse, way, tear int, again func(w *told)) (int, bool) {
	t.Helper()
	w := &told{t: t, d: disk.New(11), from: 1, n: 9}
	w.reopen()
	w.append("first")
	w.l.Force()
	w.d.Fuse(fuse)
	work(w)
	waits, went := w.d.Waits(), w.d.Down()
	w.d.On(kept(way, waits), tear)
	again(w)
	w.reopen()
	// What the loss left in the ring must not be taken for what comes behind it.
	add(t, w.l, "x")
	w.entries = append(w.entries, item{w.l.Next() - 1, "x"})
	force(t, w.l)
	w.reopen()
	w.d.On(nil, -1)
	w.reopen()
	if last := len(w.entries) - 1; last < 0 || w.entries[last].text != "x" {
		t.Fatal("what was forced is lost")
	}
	begins(t, w.d, 0, nil)
	begins(t, w.d, 10, nil)
	return waits, went
}

// P5.4: a loss of power at each step of Append, Force and Cut, and behind all, whatever stays, whatever is torn.
func TestLossAtEachStep(t *testing.T) {
	for name, work := range works() {
		t.Run(name, func(t *testing.T) {
			for fuse := 1; ; fuse++ {
				waits, went := lose(t, work, fuse, 0, -1, func(*told) {})
				for way := range 1 << waits {
					for tear := -1; tear < waits; tear++ {
						lose(t, work, fuse, way, tear, func(*told) {})
					}
				}
				if !went {
					return
				}
			}
		})
	}
}

// P5.4: a loss of power while the log is opened behind a loss is the same as one ahead.
func TestLossWhileOpened(t *testing.T) {
	for name, work := range works() {
		t.Run(name, func(t *testing.T) {
			for fuse := 1; ; fuse++ {
				waits, went := lose(t, work, fuse, 0, -1, func(*told) {})
				for way := range 1 << waits {
					for i := range 6 {
						lose(t, work, fuse, way, -1, func(w *told) {
							w.openCut(1 + i%2)
							w.d.On([]bool{i < 2}, i/2-1)
							w.openCut(2 - i%2)
							w.d.On([]bool{i > 3}, i/2-1)
						})
					}
				}
				if !went {
					return
				}
			}
		})
	}
}

// P5.4: the chapter's example.
func TestLossExample(t *testing.T) {
	d := disk.New(10)
	l := open(t, d, 0, 10)
	add(t, l, "a")
	force(t, l)
	add(t, l, "b")
	d.On(nil, -1)
	l = open(t, d, 0, 10)
	has(t, l, item{0, "a"})
	stands(t, l, 0, 1, 1, 2)
}

// P5.4: of an entry of several sectors one is lost: it and all behind it are, and none comes back when entries are laid there again.
func TestLossOfOneSector(t *testing.T) {
	for lost := range 5 {
		d := disk.New(12)
		l := open(t, d, 0, 12)
		add(t, l, "a")
		force(t, l)
		add(t, l, long("b", 3*Chunk))
		add(t, l, "c")
		add(t, l, "d")
		keep := []bool{true, true, true, true, true}
		keep[lost] = false
		d.On(keep, -1)
		want := []item{{0, "a"}, {1, long("b", 3*Chunk)}, {4, "c"}}
		want = want[:[]int{1, 1, 1, 2, 3}[lost]]
		l = open(t, d, 0, 12)
		has(t, l, want...)
		next := l.Next()
		for range 3 {
			add(t, l, "x")
			want = append(want, item{next, "x"})
			next++
			l = open(t, d, 0, 12)
			has(t, l, want...)
		}
	}
}

// P5.4: the rest of an entry that was lost isn't taken for the first one, where the log is cut just ahead of it.
func TestLossAheadOfCut(t *testing.T) {
	d := disk.New(8)
	l := open(t, d, 0, 8)
	add(t, l, "a")
	force(t, l)
	add(t, l, long("b", Chunk+1))
	d.On([]bool{false, true}, -1)
	begins(t, d, 4, ringBytes(2, 1, 1, "b"))
	l = open(t, d, 0, 8)
	add(t, l, "x")
	cut(t, l, 2)
	has(t, l)
	l = open(t, d, 0, 8)
	has(t, l)
	stands(t, l, 2, 2, 2, 3)
	add(t, l, "y")
	has(t, open(t, d, 0, 8), item{2, "y"})
}

// P5.4: behind many losses, in logs of few sectors: what was forced is there, and nothing that never was.
func TestManyLosses(t *testing.T) {
	for seed := range int64(150) {
		r := rand.New(rand.NewSource(seed))
		n := 3 + r.Intn(10)
		w := &told{t: t, d: disk.New(n + 2), from: r.Intn(3), n: n}
		w.reopen()
		for range 40 {
			w.d.Fuse(r.Intn(25))
			for range 12 {
				if w.any(r) == api.ErrDown {
					break
				}
			}
			if !w.d.Down() && r.Intn(4) == 0 {
				w.reopenAll()
			}
			for range r.Intn(3) {
				// It may be opened while writes of the log ahead still wait.
				if w.d.Down() || r.Intn(2) == 0 {
					w.loss(r)
				}
				w.openCut(1 + r.Intn(2))
				w.loss(r)
			}
			w.loss(r)
			w.reopen()
		}
	}
}

// any is one call, of an entry of any size, or a Cut at any entry, or at the end.
func (w *told) any(r *rand.Rand) api.Errno {
	switch r.Intn(6) {
	case 0:
		return w.l.Force()
	case 1, 2:
		if i := r.Intn(len(w.entries) + 1); i < len(w.entries) {
			return w.cutAt(w.entries[i].number)
		}
		return w.cutAt(w.l.Next())
	default:
		s := string(rune('a' + r.Intn(26)))
		return w.append(long(s, r.Intn(2*Chunk)))
	}
}

// loss is one behind which any writes stay, and any may tear its sector.
func (w *told) loss(r *rand.Rand) {
	waits := w.d.Waits()
	w.d.On(kept(r.Intn(1<<min(waits, 20)), waits), r.Intn(waits+2)-1)
}
