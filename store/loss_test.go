package store

import (
	"fmt"
	"math/rand"
	"slices"
	"strings"
	"testing"

	"dockmaster/api"
	"dockmaster/key"
	"dockmaster/rec"
)

// newTold is a store with some keys, that were committed.
func newTold(t *testing.T, c Conf, count int) *told {
	t.Helper()
	b := newBench(t, c.Log, c.Pages, c.Room)
	now := key.Map{}
	for i := range count {
		u := tid(uint64(1000 + i))
		b.oks(b.s.Put(u, keyOf(i), fmt.Sprint(i)), b.s.Prepare(u, nil), b.s.Commit(u))
		now = now.With(keyOf(i), fmt.Sprint(i))
	}
	b.oks(b.s.Check())
	m := newTale(now)
	return &told{bench: b, is: m, maybe: m}
}

// rows are calls, one behind the other; each is OK, if no power goes.
func rows() map[string][]call {
	one, two, three := tid(1), tid(2), tid(3)
	many := []call{}
	for i := range 28 {
		u := tid(uint64(10 + i))
		many = append(many, putCall(u, keyOf(i), "new"), prepareCall(u, "r"), commitCall(u))
	}
	return map[string][]call{
		"two beside each other": {
			putCall(one, keyOf(3), "x"), putCall(two, keyOf(15), "x"), dropCall(one, keyOf(4)), putCall(one, "more", "y"),
			dropCall(two, keyOf(16)), prepareCall(one, "r", "s"), putCall(two, keyOf(15), "z"), prepareCall(two), commitCall(one),
			putCall(three, keyOf(0), "w"), abortCall(two), prepareCall(three), commitCall(three),
		},
		"checks": {
			putCall(one, keyOf(3), "x"), checkCall(), dropCall(one, keyOf(4)), putCall(two, keyOf(9), "x"), checkCall(), prepareCall(one), checkCall(), checkCall(),
			commitCall(one), checkCall(), abortCall(two), checkCall(),
		},
		"given up": {
			dropCall(one, keyOf(3)), dropCall(one, keyOf(4)), dropCall(one, keyOf(5)), putCall(one, "k0035", "x"), putCall(one, keyOf(3), "x"), dropCall(one, keyOf(3)),
			prepareCall(one, "r"), abortCall(one), putCall(one, keyOf(3), "y"), abortCall(one), prepareCall(one), abortCall(one),
		},
		"decided": {
			decideCall(one, 1, 2), decideCall(two, 3), knowCall(one, 2), knowCall(two, 3), checkCall(), decideCall(two, 4, 5), knowCall(one, 1), decideCall(one), checkCall(), knowCall(two, 4),
		},
		"round the log": many,
	}
}

// rowConf has room for all of a row, but where it is to go round.
func rowConf(name string) Conf {
	if name == "round the log" {
		return Conf{Log: 134, Pages: 120, Room: 4}
	}
	return Conf{Log: 300, Pages: 160, Room: 4}
}

// lose makes a row's calls up to a loss of power at a step, and looks at what is left, and at what comes behind it; whether the power went.
func lose(t *testing.T, c Conf, row []call, fuse int, r *rand.Rand, again func(w *told)) bool {
	t.Helper()
	w := newTold(t, c, 20)
	w.d.Fuse(fuse)
	for _, x := range row {
		err := w.does(x)
		if err == api.ErrDown {
			break
		}
		if err != api.OK {
			t.Fatal(w.calls, err)
		}
	}
	went := w.d.Down()
	w.loss(r)
	again(w)
	w.comes()
	w.goesOn()
	return went
}

// goesOn ends what is left, the one half committed, the other one given up, and looks that all can be used.
func (w *told) goesOn() {
	w.t.Helper()
	for i, o := range w.s.Opens() {
		c := commitCall(o.Tid)
		if i%2 == int(o.Tid.Num)%2 {
			c = abortCall(o.Tid)
		}
		w.oks(w.does(c))
	}
	u := tid(500)
	for _, c := range []call{putCall(u, keyOf(7), "on"), dropCall(u, keyOf(8)), prepareCall(u), commitCall(u)} {
		w.oks(w.does(c))
	}
	w.loss(rand.New(rand.NewSource(1)))
	w.comes()
}

// P14.6: a loss of power at each step of each row, whatever stays.
func TestLossAtEachStep(t *testing.T) {
	for name, row := range rows() {
		t.Run(name, func(t *testing.T) {
			r := rand.New(rand.NewSource(14))
			for fuse := 1; ; fuse++ {
				went := false
				for range 12 {
					went = lose(t, rowConf(name), row, fuse, r, func(*told) {})
				}
				if !went {
					return
				}
			}
		})
	}
}

// P14.6, P3: a loss of power while the store is opened behind a loss is the same as one ahead: at each step of that, and at any step of an opening behind that.
func TestLossWhileOpened(t *testing.T) {
	for name, row := range rows() {
		t.Run(name, func(t *testing.T) {
			r := rand.New(rand.NewSource(6))
			for fuse := 1; ; fuse += 1 + r.Intn(3) {
				went := false
				for open := 1; open > 0; open++ {
					went = lose(t, rowConf(name), row, fuse, r, func(w *told) {
						if !w.openCut(open) {
							open = -1
						}
						w.loss(r)
						w.openCut(1 + r.Intn(20))
						w.loss(r)
					})
				}
				if !went {
					return
				}
			}
		})
	}
}

// openCut lets the power go at a step while the store is opened; whether it did.
func (w *told) openCut(fuse int) bool {
	w.t.Helper()
	w.d.Fuse(fuse)
	s, err := Open(w.d, w.c)
	if !w.d.Down() {
		w.oks(err)
		return false
	}
	if s != nil || err != api.ErrDown {
		w.t.Fatal("Open", s != nil, err)
	}
	return true
}

// P14.6: the chapter's example.
func TestLossExample(t *testing.T) {
	b := wide(t)
	b.oks(b.s.Put(tid(1), "a", "1"), b.s.Prepare(tid(1), nil))
	b.lose()
	b.has("a=1")
	b.opens("1.1:2,2,1!")
	b.oks(b.s.Abort(tid(1)))
	b.has("")
	b.lose()
	b.has("")
}

// P14.6: an Abort that was cut off is gone on with, also when that is cut off: what was undone already isn't undone once more.
func TestLossInAbort(t *testing.T) {
	inPart := 0
	for fuse := 1; ; fuse++ {
		w := newTold(t, Conf{Log: 800, Pages: 400, Room: 4}, 40)
		// As this one stays, the log isn't cut.
		w.oks(w.s.Put(tid(2), "stays", ""), w.s.Prepare(tid(2), nil))
		for i := range 6 {
			w.oks(w.s.Put(tid(1), keyOf(i*7), "x"))
		}
		w.oks(w.s.Prepare(tid(1), nil))
		w.d.Fuse(fuse)
		w.s.Abort(tid(1))
		went := w.d.Down()
		keep := make([]bool, 10000)
		for i := range keep {
			keep[i] = true
		}
		for _, open := range []int{1, 2, 4, 6, 8} {
			w.d.On(keep, -1)
			w.openCut(open)
		}
		w.d.On(keep, -1)
		w.open()
		if o := w.s.Opens(); len(o) == 2 && w.count(rec.Undo) == 0 && o[0].Count == 6 {
			w.oks(w.s.Abort(tid(1)))
		} else {
			inPart++
		}
		if w.count(rec.Undo) != 6 || w.count(rec.Abort) != 1 {
			t.Error("with", fuse, "Undos", w.count(rec.Undo), "Aborts", w.count(rec.Abort))
		}
		w.opens("2.1:123,123,1!")
		w.oks(w.s.Abort(tid(2)))
		w.has(all(40))
		if !went {
			break
		}
	}
	if inPart < 10 {
		t.Error("cut off in it:", inPart)
	}
}

// any is one call, that may be; keys that others have turned are left to them.
func (w *told) any(r *rand.Rand) call {
	t := tid(uint64(1 + r.Intn(4)))
	k := w.anyKey(r, t)
	o, open := w.is.opens[t]
	done := tid(uint64(1 + r.Intn(3)))
	nodes, decided := w.is.dones[done]
	switch n := r.Intn(20); {
	case n == 0:
		return checkCall()
	case n == 1 && !decided:
		return decideCall(done, []int{0, 1, 2, 3}[:1+r.Intn(4)]...)
	case n < 4 && decided:
		return knowCall(done, append(slices.Clone(nodes), 5)[r.Intn(len(nodes)+1)])
	case n == 4 && open:
		return abortCall(t)
	case n < 7:
		return prepareCall(t, []string{"r", "s", "r", "q"}[:r.Intn(5)]...)
	case o.ready && n < 16:
		return commitCall(t)
	case o.ready:
		return abortCall(t)
	case n < 12:
		return dropCall(t, k)
	}
	return putCall(t, k, fmt.Sprint(r.Intn(1000)))
}

func (w *told) anyKey(r *rand.Rand, t api.Tid) string {
	for {
		k, free := keyOf(r.Intn(40)), true
		for u, o := range w.is.opens {
			for _, x := range o.turns {
				free = free && (u == t || x.k != k)
			}
		}
		if free {
			return k
		}
	}
}

// mayBeFull tells whether a call may be refused for want of room: those that end something may not.
func (w *told) mayBeFull(c call) bool {
	return !strings.HasPrefix(c.text, "Abort") && !strings.HasPrefix(c.text, "Commit") && !strings.HasPrefix(c.text, "Know")
}

// P14.6, P14.3: many calls of several transactions, losses of power at any steps, also while it is opened, in stores that have little room: all is as its tale says, behind each call too.
func TestManyLosses(t *testing.T) {
	for seed := range int64(150) {
		r := rand.New(rand.NewSource(seed))
		c := Conf{Log: 100 + r.Intn(200), Pages: 60 + r.Intn(100), Room: r.Intn(12)}
		w := newTold(t, c, r.Intn(10))
		for range 12 {
			if r.Intn(4) > 0 {
				w.d.Fuse(1 + r.Intn(120))
			}
			for range r.Intn(60) {
				if w.anyCall(r) == api.ErrDown {
					break
				}
			}
			for range r.Intn(3) {
				w.loss(r)
				w.openCut(1 + r.Intn(30))
			}
			w.loss(r)
			w.comes()
		}
	}
}

// anyCall makes a call, and looks at the store, unless the power has gone.
func (w *told) anyCall(r *rand.Rand) api.Errno {
	w.t.Helper()
	c := w.any(r)
	before := w.is
	err := w.does(c)
	switch {
	case err == api.ErrDown:
		return err
	case err == api.ErrFull && w.mayBeFull(c):
		w.is, w.maybe = before, before
	case err != api.OK:
		w.t.Fatal(w.calls, err)
	}
	w.is = w.is.withoutEnds(w.s.Dones())
	w.maybe = w.is
	// To look at it may let the power go as well.
	text, dones := w.taleText(), w.s.Dones()
	if w.d.Down() {
		w.maybe = w.is
		return api.ErrDown
	}
	if text != w.is.text() || !w.is.decidedFits(dones) {
		w.t.Fatalf("%v\nit has %s\nwant %s", w.calls, text, w.is.text())
	}
	return err
}
