package store

import (
	"fmt"
	"math/rand"
	"strings"
	"testing"

	"dockmaster/api"
	"dockmaster/key"
)

// wideKey is a key of as many bytes as may be, wideVal such a value: pages of these take the most room in the log.
func wideKey(i int) string { return fmt.Sprintf("%024d", i) }
func wideVal(i int) string { return strings.Repeat(string(rune('a'+i%26)), api.MaxVal) }

const crowdKeys = 30 // that are there ahead; each third one is of the same transaction

// crowdTurn is the j-th thing that one of three transactions does: it drops one of its keys, or puts one that wasn't there.
func crowdTurn(u uint64, j int) call {
	i := j/2*3 + int(u)
	if j%2 == 0 {
		return dropCall(tid(u), wideKey(i%crowdKeys))
	}
	return putCall(tid(u), wideKey(crowdKeys+i), wideVal(j))
}

// crowd is a store with some keys, in which three transactions go on by turns until there is no room for any of them.
func crowd(t *testing.T, c Conf) *told {
	t.Helper()
	b := newBench(t, c.Log, c.Pages, c.Room)
	now := key.Map{}
	for i := range crowdKeys {
		u := tid(uint64(1000 + i))
		b.oks(b.s.Put(u, wideKey(i), wideVal(i)), b.s.Prepare(u, nil), b.s.Commit(u), b.s.Check())
		now = now.With(wideKey(i), wideVal(i))
	}
	m := newTale(now)
	w := &told{bench: b, is: m, maybe: m}
	for j := 0; ; j++ {
		for u := range uint64(3) {
			x := crowdTurn(u, j)
			err := x.do(w.s)
			if err == api.ErrFull && j > 0 {
				return w
			}
			if err != api.OK {
				t.Fatal(x.text, err)
			}
			w.is = x.leave(w.is)
		}
	}
}

// must makes calls that have to be OK, with a look at the store behind each.
func (w *told) must(calls ...call) {
	w.t.Helper()
	for _, x := range calls {
		if err := w.does(x); err != api.OK {
			w.t.Fatal(w.calls, err)
		}
		if text := w.taleText(); text != w.is.text() {
			w.t.Fatal(w.calls, "it has", text, "want", w.is.text())
		}
	}
}

// P14.3: where the log, or the pages, are full, all that is open can be given up, be prepared with as many reads as may be, and then be committed or given up, with a loss of power between or without.
func TestFull(t *testing.T) {
	for name, c := range map[string]Conf{
		"the log":   {Log: 700, Pages: 3000, Room: 4},
		"the pages": {Log: 6000, Pages: 330, Room: 4},
	} {
		for way := range 2 * 3 * 3 * 3 {
			w := crowd(t, c)
			if name == "the log" {
				w.fill(0)
			}
			// How each of the three ends: given up, prepared and committed, prepared and given up.
			ends := [3]int{way / 2 % 3, way / 6 % 3, way / 18}
			for u, end := range ends {
				if end > 0 {
					w.must(prepareCall(tid(uint64(u)), long(100)...))
				}
			}
			if way%2 == 1 {
				w.maybe = w.is
				w.loss(rand.New(rand.NewSource(int64(way))))
				w.comes()
			}
			for _, o := range w.s.Opens() {
				if ends[o.Tid.Num] == 1 {
					w.must(commitCall(o.Tid))
				} else {
					w.must(abortCall(o.Tid))
				}
			}
			w.must(checkCall())
			w.loss(rand.New(rand.NewSource(int64(way))))
			w.comes()
			w.must(putCall(tid(50), "a", "1"))
		}
	}
}
