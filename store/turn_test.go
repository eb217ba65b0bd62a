package store

import (
	"fmt"
	"strings"
	"testing"

	"dockmaster/api"
	"dockmaster/rec"
	"dockmaster/space"
)

// wrongTids are transactions out of api's bounds.
func wrongTids() []api.Tid {
	return []api.Tid{{Num: api.MaxTid + 1}, {Num: 1 << 63}, {Node: -1}, {Node: api.MaxNodes}, {Num: 5, Node: 1 << 40}, {Num: api.MaxTid + 1, Node: -1}}
}

// edgeTids are such within them.
func edgeTids() []api.Tid {
	return []api.Tid{{}, {Num: api.MaxTid}, {Node: api.MaxNodes - 1}, {Num: api.MaxTid, Node: api.MaxNodes - 1}}
}

// P14.2: a key that was put, put anew, dropped, never put; of any transaction, open or at its end.
func TestGet(t *testing.T) {
	b := wide(t)
	b.getsNone("a", api.OK)
	b.oks(b.s.Put(tid(1), "a", "1"), b.s.Put(tid(2), "b", ""))
	b.gets("a", "1")
	b.gets("b", "")
	b.getsNone("ab", api.OK)
	b.oks(b.s.Put(tid(1), "a", "2"), b.s.Drop(tid(2), "b"))
	b.gets("a", "2")
	b.getsNone("b", api.OK)
	b.oks(b.s.Prepare(tid(1), nil), b.s.Commit(tid(1)), b.s.Abort(tid(2)))
	b.gets("a", "2")
	b.getsNone("b", api.OK)
	b.lose()
	b.gets("a", "2")
	b.has("a=2")
}

// P14.2: keys at their bounds and past them.
func TestGetKeys(t *testing.T) {
	b := wide(t)
	edge := strings.Repeat("k", api.MaxKey)
	b.puts(tid(1), 40)
	for k, want := range map[string]api.Errno{"": api.ErrArg, edge: api.OK, edge + "k": api.ErrKey, strings.Repeat("k", 1000): api.ErrKey, "\x00": api.OK} {
		before := b.text()
		b.getsNone(k, want)
		is(t, "behind Get", b.text(), before)
	}
	for i := range 40 {
		b.gets(keyOf(i), fmt.Sprint(i))
	}
	// A wrong key is told without a page.
	for n := range 8 {
		b.s.pool.Load(n + 1)
	}
	b.d.Off()
	b.getsNone("", api.ErrArg)
	b.getsNone(edge+"k", api.ErrKey)
	b.getsNone(edge, api.ErrDown)
	b.getsNone("", api.ErrDown)
}

// P14.2: keys and values at their bounds and one past: the key's error comes ahead of the value's, and both ahead of all others.
func TestKeysAndValues(t *testing.T) {
	b := wide(t)
	key, val := strings.Repeat("k", api.MaxKey), strings.Repeat("v", api.MaxVal)
	ready, any := tid(9), append(wrongTids(), tid(1), tid(9))
	b.oks(b.s.Prepare(ready, nil))
	for _, u := range any {
		for _, v := range []string{"", val, val + "v"} {
			b.refused("Put of no key", api.ErrArg, func() api.Errno { return b.s.Put(u, "", v) })
			b.refused("Put of a long key", api.ErrKey, func() api.Errno { return b.s.Put(u, key+"k", v) })
		}
		b.refused("Put of a long value", api.ErrKey, func() api.Errno { return b.s.Put(u, key, val+"v") })
		b.refused("Drop of no key", api.ErrArg, func() api.Errno { return b.s.Drop(u, "") })
		b.refused("Drop of a long key", api.ErrKey, func() api.Errno { return b.s.Drop(u, key+"k") })
	}
	b.opens("9.1:0,0,0!")
	b.oks(b.s.Put(tid(1), key, val), b.s.Put(tid(1), "\x00", ""))
	b.has("\x00= " + key + "=" + val)
	b.oks(b.s.Drop(tid(1), key), b.s.Prepare(tid(1), nil))
	b.lose()
	b.has("\x00=")
	b.oks(b.s.Abort(tid(1)))
	b.has("")
}

// P14.2: a transaction within the bounds, and out of them; one that is Ready.
func TestTids(t *testing.T) {
	b := wide(t)
	for _, u := range wrongTids() {
		b.refused("Put", api.ErrArg, func() api.Errno { return b.s.Put(u, "a", "") })
		b.refused("Drop", api.ErrArg, func() api.Errno { return b.s.Drop(u, "a") })
	}
	for i, u := range edgeTids() {
		b.oks(b.s.Put(u, keyOf(i), "x"), b.s.Drop(u, keyOf(i+10)))
		b.oks(b.s.Prepare(u, nil))
		b.refused("Put", api.ErrTurn, func() api.Errno { return b.s.Put(u, "a", "") })
		b.refused("Drop", api.ErrTurn, func() api.Errno { return b.s.Drop(u, "a") })
	}
	b.has("k000=x k001=x k002=x k003=x")
	for _, u := range edgeTids() {
		b.oks(b.s.Commit(u), b.s.Put(u, "a", "x"), b.s.Drop(u, "a"), b.s.Abort(u))
	}
	b.lose()
	b.has("k000=x k001=x k002=x k003=x")
	b.opens("")
}

// P14.2: what is laid in the log: how it was, what came ahead, the pages; and how the transaction is open then.
func TestUpdates(t *testing.T) {
	b := wide(t)
	one, two := tid(1), tid(2)
	b.oks(b.s.Put(one, "b", "1"))
	b.opens("1.1:2,2,1")
	b.oks(b.s.Put(two, "a", ""), b.s.Put(one, "b", "1"), b.s.Put(two, "a", "2"), b.s.Drop(one, "b"), b.s.Drop(one, "b"), b.s.Drop(two, "z"), b.s.Put(one, "c", "3"))
	b.opens("1.1:9,2,5 2.1:8,3,3")
	b.has("a=2 c=3")
	b.log(
		"0 Check opens [] dones []",
		`1 Update 1.1 b was false "" prev 0 pages [0 1]`,
		`2 Update 2.1 a was false "" prev 0 pages [1]`,
		`3 Update 1.1 b was true "1" prev 2 pages [1]`,
		`4 Update 2.1 a was true "" prev 3 pages [1]`,
		`5 Update 1.1 b was true "1" prev 4 pages [1]`,
		`6 Update 1.1 b was false "" prev 6 pages []`,
		`7 Update 2.1 z was false "" prev 5 pages []`,
		`8 Update 1.1 c was false "" prev 7 pages [1]`,
	)
	if b.d.Waits() == 0 {
		t.Error("updates were forced")
	}
	b.lose()
	b.has("")
	b.opens("")
}

// P14.2: pages split and join, and each that was turned is in the record.
func TestUpdatesOfPages(t *testing.T) {
	b := wide(t)
	for i := range 6 {
		b.oks(b.s.Put(tid(1), keyOf(i), ""))
	}
	b.oks(b.s.Put(tid(1), keyOf(6), ""), b.s.Drop(tid(1), keyOf(0)))
	all := b.items()
	is(t, "a Put that splits", recText(all[7].n, all[7].r), `7 Update 1.1 k006 was false "" prev 7 pages [0 1 2 3]`)
	is(t, "a Drop that joins", recText(all[8].n, all[8].r), `8 Update 1.1 k000 was true "" prev 8 pages [0 1 2 3]`)
	b.has("k001= k002= k003= k004= k005= k006=")
	b.oks(b.s.Prepare(tid(1), nil))
	b.lose()
	b.has("k001= k002= k003= k004= k005= k006=")
	b.oks(b.s.Abort(tid(1)))
	b.has("")
}

// P14.2: with as many open as may be: another one isn't opened, those that are go on.
func TestMaxOpen(t *testing.T) {
	b := newBench(t, 4000, 200, 4)
	for i := range uint64(rec.MaxOpen - 1) {
		b.oks(b.s.Prepare(tid(i), nil))
	}
	last, more := tid(1000), tid(1001)
	b.oks(b.s.Put(last, "a", "1"))
	if len(b.s.Opens()) != rec.MaxOpen {
		t.Fatal("open", len(b.s.Opens()))
	}
	b.refused("Put", api.ErrMany, func() api.Errno { return b.s.Put(more, "b", "") })
	b.refused("Drop", api.ErrMany, func() api.Errno { return b.s.Drop(more, "b") })
	b.refused("Prepare", api.ErrMany, func() api.Errno { return b.s.Prepare(more, nil) })
	b.refused("Put of one that is Ready", api.ErrTurn, func() api.Errno { return b.s.Put(tid(5), "b", "") })
	b.refused("Put of a wrong one", api.ErrArg, func() api.Errno { return b.s.Put(api.Tid{Node: -1}, "b", "") })
	b.refused("Prepare of a wrong one", api.ErrArg, func() api.Errno { return b.s.Prepare(api.Tid{Node: -1}, nil) })
	b.refused("Prepare of one that is Ready", api.OK, func() api.Errno { return b.s.Prepare(tid(5), nil) })
	b.oks(b.s.Put(last, "b", "2"), b.s.Drop(last, "a"), b.s.Check())
	b.oks(b.s.Prepare(last, []string{"r"}))
	b.lose()
	if len(b.s.Opens()) != rec.MaxOpen {
		t.Error("open", len(b.s.Opens()))
	}
	b.refused("Put", api.ErrMany, func() api.Errno { return b.s.Put(more, "c", "") })
	b.oks(b.s.Commit(tid(0)), b.s.Put(more, "c", "3"))
	b.has("b=2 c=3")
	b.oks(b.s.Abort(more), b.s.Prepare(more, nil), b.s.Abort(last))
	b.has("")
}

// P14.2: just as much room as is asked for, and one sector less: in a log so small that half of it isn't more than that.
func TestRoomForUpdate(t *testing.T) {
	for _, call := range []func(s *Store, t api.Tid) api.Errno{
		func(s *Store, t api.Tid) api.Errno { return s.Put(t, "a", "x") },
		func(s *Store, t api.Tid) api.Errno { return s.Drop(t, "z") },
	} {
		b := newBench(t, 100, 60, 4)
		b.fill(65)
		b.refused("without room", api.ErrFull, func() api.Errno { return call(b.s, tid(1)) })

		b = newBench(t, 100, 60, 4)
		b.fill(66)
		b.oks(call(b.s, tid(1)))
		if b.count(rec.Check) != 1 || b.count(rec.Update) != 1 {
			t.Error("the log", b.count(rec.Check), b.count(rec.Update))
		}
		// What is set aside then isn't there for others, also behind a Check.
		if first, other := call(b.s, tid(1)), call(b.s, tid(2)); first != api.ErrFull || other != api.ErrFull {
			t.Error("without room", first, other)
		}
		b.oks(b.s.Abort(tid(1)))
		b.oks(call(b.s, tid(2)))
	}
}

// P14.2: what is set aside, of each transaction and each of its updates that isn't undone, in a log where no Check is made.
func TestRoomSetAside(t *testing.T) {
	b := newBench(t, 400, 200, 4)
	b.oks(b.s.Put(tid(1), "a", "1"), b.s.Put(tid(1), "b", "1"), b.s.Put(tid(2), "c", "1"), b.s.Prepare(tid(3), nil), b.s.Prepare(tid(2), nil))
	// Six entries behind the Check; three transactions, three updates.
	if want := 398 - 6 - 3*8 - 3*29; b.free() != want {
		t.Error("free", b.free(), "want", want)
	}
	for _, x := range []struct {
		n    int
		room bool
	}{{b.free(), true}, {b.free() + 1, false}, {0, true}, {-5, true}} {
		if b.s.room(x.n) != x.room {
			t.Error("room for", x.n)
		}
	}
	b.oks(b.s.Abort(tid(1)), b.s.Abort(tid(3)))
	if want := 398 - 6 - 4 - 8 - 29; b.free() != want || !b.s.room(want) || b.s.room(want+1) {
		t.Error("free", b.free(), "want", want)
	}
}

// P14.2: just as many pages Left as are asked for, and one less.
func TestPagesForUpdate(t *testing.T) {
	for pages, want := range map[int]api.Errno{26: api.ErrFull, 27: api.OK} {
		b := newBench(t, 400, pages, 4)
		if want != api.OK {
			b.refused("Put", want, func() api.Errno { return b.s.Put(tid(1), "a", "") })
			b.refused("Drop", want, func() api.Errno { return b.s.Drop(tid(1), "a") })
			b.oks(b.s.Prepare(tid(1), nil), b.s.Commit(tid(1)))
			continue
		}
		// A Drop of what isn't there needs no page: so many are Left behind it.
		b.oks(b.s.Drop(tid(1), "a"))
		b.refused("with 13 set aside", api.ErrFull, func() api.Errno { return b.s.Put(tid(1), "a", "") })
		b.refused("with 13 set aside", api.ErrFull, func() api.Errno { return b.s.Put(tid(2), "a", "") })
		b.oks(b.s.Abort(tid(1)), b.s.Put(tid(2), "a", ""))
		b.oks(b.s.Prepare(tid(2), nil), b.s.Commit(tid(2)))
		b.refused("with one page less", api.ErrFull, func() api.Errno { return b.s.Drop(tid(1), "a") })
		b.has("a=")
	}
	for pages, want := range map[int]api.Errno{39: api.ErrFull, 40: api.OK, 41: api.OK} {
		b := newBench(t, 400, pages, 4)
		b.oks(b.s.Drop(tid(1), "a"))
		if err := b.s.Drop(tid(2), "b"); err != want {
			t.Error("of", pages, "pages", err)
		}
	}
}

// P14.2: of several updates that aren't undone each has pages set aside.
func TestPagesSetAside(t *testing.T) {
	b := newBench(t, 2000, 1+26+13*6, 4)
	for i := range 7 {
		b.oks(b.s.Drop(tid(uint64(i%3)), "a"))
	}
	b.refused("Drop", api.ErrFull, func() api.Errno { return b.s.Drop(tid(0), "a") })
	b.oks(b.s.Prepare(tid(0), nil))
	b.lose()
	// Of tid(0) three updates are there still, and no others.
	for range 4 {
		b.oks(b.s.Drop(tid(5), "a"))
	}
	b.refused("Drop", api.ErrFull, func() api.Errno { return b.s.Drop(tid(5), "a") })
}

// P14.2: where there isn't room for half of the log a Check is made, with what was open ahead of the call; else none.
func TestCheckByItself(t *testing.T) {
	for name, call := range map[string]func(b *bench) api.Errno{
		"Put":    func(b *bench) api.Errno { return b.s.Put(tid(2), "b", "2") },
		"Drop":   func(b *bench) api.Errno { return b.s.Drop(tid(2), "b") },
		"Decide": func(b *bench) api.Errno { return b.s.Decide(tid(2), nil) },
	} {
		b := newBench(t, 200, 60, 4)
		b.puts(tid(1), 3)
		b.fill(99)
		b.oks(call(b))
		if b.s.log.Start() != 0 || b.count(rec.Check) != 1 {
			t.Error(name, "at half: a Check")
		}
		b.oks(b.s.Put(tid(2), "c", "3"))
		if name != "Decide" && (b.s.log.Start() == 0 || b.count(rec.Check) != 1) {
			t.Error(name, "below half, by what it took: no Check")
		}

		b = newBench(t, 200, 60, 4)
		b.puts(tid(1), 3)
		b.fill(98)
		next := b.s.log.Next()
		b.oks(call(b))
		all := b.items()
		if len(all) != 2 || recText(all[0].n, all[0].r) != fmt.Sprint(next, " Check opens [] dones []") || b.s.pool.Dirty() > 1 {
			t.Error(name, "just below half", len(all), recText(all[0].n, all[0].r))
		}
	}
}

// P14.2: half of a log with an odd number of sectors is rounded down.
func TestHalf(t *testing.T) {
	for free, checks := range map[int]int{70: 1, 69: 1, 68: 0} {
		b := newBench(t, 141, 60, 4)
		b.fill(free)
		start := b.s.log.Start()
		b.oks(b.s.Put(tid(1), "a", ""))
		if made := b.s.log.Start() != start; made == (checks == 1) {
			t.Error("with", free, "free a Check:", made)
		}
	}
}

// P14.2: whatever the Check answers, the call goes on: with too little room it is ErrFull, and the Check stays.
func TestCheckByItselfAnswers(t *testing.T) {
	open := func(free int) *bench {
		b := newBench(t, 200, 60, 4)
		b.oks(b.s.Put(tid(1), "a", "1"), b.s.Check())
		b.fill(free)
		return b
	}
	// The Check takes a sector, and nothing is cut, as an update ahead of it may be undone.
	b := open(67)
	b.oks(b.s.Put(tid(1), "b", "2"))
	if b.count(rec.Check) != 2 || b.s.log.Start() != 1 {
		t.Error("Checks", b.count(rec.Check), b.s.log.Start())
	}
	b = open(66)
	if err := b.s.Put(tid(1), "b", "2"); err != api.ErrFull || b.count(rec.Check) != 2 || b.s.log.Start() != 1 || b.free() != 65 {
		t.Error("Put", err, b.count(rec.Check), b.free())
	}
	b.opens("1.1:2,2,1")
	b.has("a=1")
	b = open(0)
	b.refused("a Check without room", api.ErrFull, func() api.Errno { return b.s.Put(tid(1), "b", "2") })
	b.oks(b.s.Prepare(tid(1), nil), b.s.Commit(tid(1)), b.s.Put(tid(2), "b", "2"))
	b.has("a=1 b=2")

	// One that has too much for a record.
	b = newBench(t, 800, 60, 4)
	for i := range 10 {
		b.oks(b.s.Prepare(tid(uint64(i)), long(100)))
	}
	b.refused("Check", api.ErrMany, b.s.Check)
	b.fill(200)
	b.oks(b.s.Put(tid(20), "a", "1"), b.s.Decide(tid(20), nil))
	if b.count(rec.Check) != 1 {
		t.Error("Checks", b.count(rec.Check))
	}
}

// P14.2: the errors of a call that would be refused come ahead of the Check.
func TestNoCheckAhead(t *testing.T) {
	b := newBench(t, 200, 60, 4)
	b.oks(b.s.Prepare(tid(1), nil), b.s.Decide(tid(1), nil))
	b.fill(80)
	b.refused("Put", api.ErrTurn, func() api.Errno { return b.s.Put(tid(1), "a", "") })
	b.refused("Put", api.ErrArg, func() api.Errno { return b.s.Put(api.Tid{Node: 64}, "a", "") })
	b.refused("Put", api.ErrKey, func() api.Errno { return b.s.Put(tid(2), strings.Repeat("a", 25), "") })
	b.refused("Decide", api.ErrArg, func() api.Errno { return b.s.Decide(tid(2), []int{64}) })
	b.refused("Decide", api.ErrTurn, func() api.Errno { return b.s.Decide(tid(1), nil) })
	b.refused("Prepare", api.OK, func() api.Errno { return b.s.Prepare(tid(1), nil) })
}

// P14.2: pages that can't be used: the tree's errors, and nothing is done.
func TestBadPages(t *testing.T) {
	b := newBench(t, 2000, 700, 4)
	b.puts(tid(1), 40)
	b.oks(b.s.Put(tid(2), keyOf(1), "x"), b.s.Put(tid(2), keyOf(39), "y"), b.s.Check())
	v, err := space.New(b.s.pool)
	if err != api.OK {
		t.Fatal(err)
	}
	root, _ := v.Load(v.Root())
	first := root.Kids[0]
	b.gets(keyOf(39), "y")
	good, _ := b.d.Read(2000 + first)
	b.d.Write(2000+first, []byte("no page"))
	want := api.ErrBad
	call := func() {
		t.Helper()
		b.getsNone(keyOf(0), want)
		if _, err := b.s.Map(); err != want {
			t.Error("Map", err)
		}
		before, next := b.opensText(), b.s.log.Next()
		for what, err := range map[string]api.Errno{"Put": b.s.Put(tid(3), keyOf(0), ""), "Drop": b.s.Drop(tid(3), keyOf(0)), "Abort": b.s.Abort(tid(2))} {
			if err != want || b.s.Dead() {
				t.Error(what, err)
			}
		}
		if is(t, "Opens", b.opensText(), before); b.s.log.Next() != next {
			t.Error("something was laid")
		}
		b.gets(keyOf(39), "y")
	}
	call()
	b.d.Sync()
	b.d.Write(2000+first, []byte("torn"))
	b.d.On(nil, 0)
	want = api.ErrTorn
	call()
	b.d.Write(2000+first, good)
	b.oks(b.s.Abort(tid(2)))
	b.opens("")
	b.has(all(40))
}
