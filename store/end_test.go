package store

import (
	"slices"
	"strings"
	"testing"

	"dockmaster/api"
	"dockmaster/rec"
)

// P14.3: Prepare of one that has updates, and of one that isn't open: it stays, with its reads in order, each once.
func TestPrepare(t *testing.T) {
	b := wide(t)
	b.oks(b.s.Put(tid(1), "a", "1"), b.s.Put(tid(1), "b", "2"), b.s.Prepare(tid(1), []string{"z", "x", "z", "y", "x"}))
	if !b.safe() {
		t.Error("it isn't forced")
	}
	b.oks(b.s.Prepare(tid(2), nil))
	if !b.safe() {
		t.Error("it isn't forced")
	}
	b.oks(b.s.Prepare(tid(3), []string{"r"}))
	want := "1.1:3,2,2!x+y+z 2.1:0,0,0! 3.1:0,0,0!r"
	b.opens(want)
	b.log(
		"0 Check opens [] dones []",
		`1 Update 1.1 a was false "" prev 0 pages [0 1]`,
		`2 Update 1.1 b was false "" prev 2 pages [1]`,
		"3 Prepare 1.1 reads [x y z]",
		"4 Prepare 2.1 reads []",
		"5 Prepare 3.1 reads [r]",
	)
	for range 3 {
		b.lose()
		b.opens(want)
		b.has("a=1 b=2")
	}
	b.oks(b.s.Check())
	b.lose()
	b.opens(want)
	b.touched(tid(1), "a b")
}

// P14.3: reads at MaxReads and one more, each counted once.
func TestPrepareMaxReads(t *testing.T) {
	b := wide(t)
	b.oks(b.s.Prepare(tid(1), twice(reads(100))))
	if o := b.s.Opens(); len(o) != 1 || !slices.Equal(o[0].Reads, reads(100)) {
		t.Error("Opens", b.opensText())
	}
	b.oks(b.s.Prepare(tid(2), long(100)))
	for _, u := range append(wrongTids(), tid(1), tid(3)) {
		b.refused("101 keys", api.ErrMany, func() api.Errno { return b.s.Prepare(u, reads(101)) })
		b.refused("101 keys, twice", api.ErrMany, func() api.Errno { return b.s.Prepare(u, twice(reads(101))) })
		b.refused("100 keys, and a wrong one", api.ErrMany, func() api.Errno { return b.s.Prepare(u, append(reads(100), "")) })
		b.refused("very many keys", api.ErrMany, func() api.Errno { return b.s.Prepare(u, reads(5000)) })
	}
	b.lose()
	if o := b.s.Opens(); len(o) != 2 || !slices.Equal(o[0].Reads, reads(100)) || !slices.Equal(o[1].Reads, long(100)) {
		t.Error("Opens", b.opensText())
	}
}

// P14.3: keys that aren't right, a transaction out of the bounds: also of one that is Ready.
func TestPrepareArguments(t *testing.T) {
	b := wide(t)
	edge := strings.Repeat("k", api.MaxKey)
	b.oks(b.s.Prepare(tid(1), []string{edge, "\x00"}))
	b.opens("1.1:0,0,0!\x00+" + edge)
	for _, wrong := range [][]string{{""}, {"a", ""}, {edge + "k"}, {"a", edge + "k", "b"}, append(reads(99), "")} {
		for _, u := range []api.Tid{tid(1), tid(2)} {
			b.refused("a wrong key", api.ErrArg, func() api.Errno { return b.s.Prepare(u, wrong) })
		}
	}
	for _, u := range wrongTids() {
		b.refused("a wrong transaction", api.ErrArg, func() api.Errno { return b.s.Prepare(u, nil) })
	}
	for _, u := range edgeTids() {
		b.oks(b.s.Prepare(u, nil))
	}
	if b.opensText() != "0.0:0,0,0! 0.63:0,0,0! 1.1:0,0,0!\x00+"+edge+" 1099511627776.0:0,0,0! 1099511627776.63:0,0,0!" {
		t.Error("Opens", b.opensText())
	}
}

// P14.3: again of one that is Ready: nothing more is laid, the reads stay.
func TestPrepareAgain(t *testing.T) {
	b := wide(t)
	b.oks(b.s.Prepare(tid(1), []string{"a"}))
	b.refused("Prepare", api.OK, func() api.Errno { return b.s.Prepare(tid(1), []string{"b", "c"}) })
	b.refused("Prepare", api.OK, func() api.Errno { return b.s.Prepare(tid(1), nil) })
	b.opens("1.1:0,0,0!a")
}

// P14.3: what is handed in is neither turned nor kept.
func TestPrepareKeepsNothing(t *testing.T) {
	b := wide(t)
	keys := []string{"c", "a", "b", "a"}
	b.oks(b.s.Prepare(tid(1), keys))
	is(t, "what was handed in", strings.Join(keys, " "), "c a b a")
	clear(keys)
	b.opens("1.1:0,0,0!a+b+c")
	nodes := []int{3, 1, 3}
	b.oks(b.s.Decide(tid(1), nodes))
	if !slices.Equal(nodes, []int{3, 1, 3}) {
		t.Error("what was handed in", nodes)
	}
	clear(nodes)
	b.dones("1.1[1,3]")
}

// P14.3: one that isn't open asks for room, of one that is it is set aside; no Check is made.
func TestPrepareRoom(t *testing.T) {
	for free, want := range map[int]api.Errno{17: api.OK, 16: api.OK, 15: api.ErrFull, 1: api.ErrFull, 0: api.ErrFull} {
		b := newBench(t, 200, 60, 4)
		b.oks(b.s.Put(tid(1), "a", "1"))
		b.fill(free)
		checks := b.count(rec.Check)
		if want == api.OK {
			b.oks(b.s.Prepare(tid(2), long(100)))
		} else {
			b.refused("Prepare", want, func() api.Errno { return b.s.Prepare(tid(2), nil) })
		}
		b.oks(b.s.Prepare(tid(1), long(100)))
		if b.count(rec.Check) != checks {
			t.Error("a Check was made")
		}
		b.oks(b.s.Commit(tid(1)))
		if want == api.OK {
			b.oks(b.s.Abort(tid(2)))
		}
		b.has("a=1")
	}
}

// P14.3: Commit of one that isn't open, isn't Ready, is Ready.
func TestCommit(t *testing.T) {
	b := wide(t)
	b.oks(b.s.Put(tid(1), "a", "1"), b.s.Put(tid(2), "b", "2"), b.s.Prepare(tid(1), nil), b.s.Prepare(tid(3), nil))
	b.refused("Commit", api.ErrTurn, func() api.Errno { return b.s.Commit(tid(2)) })
	for _, u := range append(wrongTids(), tid(4), api.Tid{Num: 1, Node: 2}) {
		b.refused("Commit", api.ErrNone, func() api.Errno { return b.s.Commit(u) })
	}
	b.oks(b.s.Commit(tid(1)))
	if !b.safe() {
		t.Error("it isn't forced")
	}
	b.refused("Commit", api.ErrNone, func() api.Errno { return b.s.Commit(tid(1)) })
	b.refused("Abort", api.ErrNone, func() api.Errno { return b.s.Abort(tid(1)) })
	b.opens("2.1:3,3,1 3.1:0,0,0!")
	b.oks(b.s.Commit(tid(3)))
	b.lose()
	b.has("a=1")
	b.opens("")
	// It may be opened once more.
	b.oks(b.s.Put(tid(1), "a", "3"), b.s.Abort(tid(1)))
	b.has("a=1")
}

// P14.3: what is laid by an Abort: the updates from the last one on, each leads to the one ahead.
func TestAbort(t *testing.T) {
	b := wide(t)
	b.puts(tid(9), 2)
	b.oks(b.s.Check())
	b.oks(b.s.Put(tid(1), "k000", "x"), b.s.Put(tid(2), "n", "other"), b.s.Put(tid(1), "m", "x"), b.s.Put(tid(1), "k000", "y"), b.s.Drop(tid(1), "k001"), b.s.Drop(tid(1), "k000"), b.s.Drop(tid(1), "o"))
	b.has("m=x n=other")
	next := b.d.Steps()
	b.oks(b.s.Abort(tid(1)))
	b.has("k000=0 k001=1 n=other")
	b.opens("2.1:8,8,1")
	if b.d.Waits() == 0 || b.d.Steps() == next {
		t.Error("it was forced")
	}
	b.log(
		"5 Check opens [] dones []",
		`6 Update 1.1 k000 was true "0" prev 0 pages [1]`,
		`7 Update 2.1 n was false "" prev 0 pages [1]`,
		`8 Update 1.1 m was false "" prev 7 pages [1]`,
		`9 Update 1.1 k000 was true "x" prev 9 pages [1]`,
		`10 Update 1.1 k001 was true "1" prev 10 pages [1]`,
		`11 Update 1.1 k000 was true "y" prev 11 pages [1]`,
		`12 Update 1.1 o was false "" prev 12 pages []`,
		"13 Undo 1.1 prev 12 pages []",
		"14 Undo 1.1 prev 11 pages [1]",
		"15 Undo 1.1 prev 10 pages [1]",
		"16 Undo 1.1 prev 9 pages [1]",
		"17 Undo 1.1 prev 7 pages [1]",
		"18 Undo 1.1 prev 0 pages [1]",
		"19 Abort 1.1",
	)
	for _, u := range append(wrongTids(), tid(1), tid(3)) {
		b.refused("Abort", api.ErrNone, func() api.Errno { return b.s.Abort(u) })
	}
	b.lose()
	b.has("k000=0 k001=1")
}

// P14.3: an Abort of a prepared one, with updates and without, is forced.
func TestAbortReady(t *testing.T) {
	b := wide(t)
	b.puts(tid(9), 3)
	b.oks(b.s.Put(tid(1), "k000", "x"), b.s.Drop(tid(1), "k001"), b.s.Prepare(tid(1), []string{"r"}), b.s.Prepare(tid(2), nil))
	b.oks(b.s.Abort(tid(1)))
	if !b.safe() {
		t.Error("it isn't forced")
	}
	b.opens("2.1:0,0,0!")
	b.has(all(3))
	b.lose()
	b.opens("2.1:0,0,0!")
	b.has(all(3))
	b.oks(b.s.Abort(tid(2)))
	if !b.safe() {
		t.Error("it isn't forced")
	}
	b.lose()
	b.opens("")
	b.has(all(3))
}

// P14.3: many keys, put and dropped by one that is given up, so that pages split and join both ways; and of several that go on beside each other.
func TestAbortOfMany(t *testing.T) {
	for from := range 3 {
		b := newBench(t, 8000, 3000, 4)
		b.puts(tid(9), 60)
		for i := range 60 {
			u := tid(uint64(1 + (i+from)%3))
			switch i % 4 {
			case 0:
				b.oks(b.s.Put(u, keyOf(i), "x"))
			case 1:
				b.oks(b.s.Put(u, keyOf(i+100), "x"))
			default:
				b.oks(b.s.Drop(u, keyOf(i)))
			}
		}
		b.oks(b.s.Prepare(tid(2), nil))
		b.oks(b.s.Abort(tid(1)), b.s.Abort(tid(3)), b.s.Abort(tid(2)))
		b.has(all(60))
		b.lose()
		b.has(all(60))
	}
}

// P14.3: of one whose updates were undone in part just the others are undone, also behind a Check.
func TestAbortOfRest(t *testing.T) {
	for checks := range 2 {
		b := inPart(t)
		for range checks {
			b.oks(b.s.Check())
		}
		b.has("a==a b==b")
		n := len(b.items())
		b.oks(b.s.Abort(tid(1)))
		b.has("")
		var laid []string
		for _, x := range b.items()[n:] {
			laid = append(laid, strings.Join(strings.Fields(recText(x.n, x.r))[1:], " "))
		}
		is(t, "laid", strings.Join(laid, ", "), "Undo 1.1 prev 3 pages [1], Undo 1.1 prev 0 pages [1], Abort 1.1")
	}
}

// inPart is a store in which of one transaction that is prepared four updates were made, and of these the last two undone.
func inPart(t *testing.T) *bench {
	t.Helper()
	one := tid(1)
	b := lay(t, Conf{Log: 300, Pages: 100, Room: 4},
		rec.Rec{Kind: rec.Check},
		rec.Rec{Kind: rec.Update, Tid: one, Key: "a", Pages: list(meta(1, 2), leaf(1, "a"))},
		rec.Rec{Kind: rec.Update, Tid: one, Key: "b", Prev: 3, Pages: list(leaf(1, "a", "b"))},
		rec.Rec{Kind: rec.Update, Tid: one, Key: "c", Prev: 4, Pages: list(leaf(1, "a", "b", "c"))},
		rec.Rec{Kind: rec.Update, Tid: one, Key: "d", Prev: 5, Pages: list(leaf(1, "a", "b", "c", "d"))},
		rec.Rec{Kind: rec.Undo, Tid: one, Prev: 5, Pages: list(leaf(1, "a", "b", "c"))},
		rec.Rec{Kind: rec.Undo, Tid: one, Prev: 4, Pages: list(leaf(1, "a", "b"))},
		rec.Rec{Kind: rec.Prepare, Tid: one},
	)
	b.open()
	return b
}
