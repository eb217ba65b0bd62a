package store

import (
	"fmt"
	"testing"

	"dockmaster/api"
	"dockmaster/rec"
)

// P14.4: nodes twice, out of order, none, all; it is forced.
func TestDecide(t *testing.T) {
	b := wide(t)
	every := []int{}
	for n := range 64 {
		every = append(every, n)
	}
	b.oks(b.s.Decide(tid(2), []int{3, 1, 3, 63, 0, 1}))
	if !b.safe() {
		t.Error("it isn't forced")
	}
	b.oks(b.s.Decide(tid(1), nil), b.s.Decide(tid(3), []int{5}))
	want := "1.1[] 2.1[0,1,3,63] 3.1[5]"
	b.dones(want)
	b.log("0 Check opens [] dones []", "1 Decide 2.1 nodes [0 1 3 63]", "2 Decide 1.1 nodes []", "3 Decide 3.1 nodes [5]")
	b.opens("")
	b.lose()
	b.dones(want)
	b.oks(b.s.Check())
	b.lose()
	b.dones(want)
	b.oks(b.s.Decide(tid(4), twice(every)))
	if d := b.s.Dones(); len(d) != 4 || len(d[3].Nodes) != 64 {
		t.Error("Dones", b.donesText())
	}
}

// P14.4: nodes and transactions out of the bounds, of one that is decided too; one that is decided.
func TestDecideRefuses(t *testing.T) {
	b := wide(t)
	b.oks(b.s.Decide(tid(1), []int{1}))
	for _, u := range []api.Tid{tid(1), tid(2)} {
		for _, nodes := range [][]int{{-1}, {64}, {0, 64}, {1 << 40}, {5, -1 << 63, 6}} {
			b.refused("a wrong node", api.ErrArg, func() api.Errno { return b.s.Decide(u, nodes) })
		}
	}
	for _, u := range wrongTids() {
		b.refused("a wrong transaction", api.ErrArg, func() api.Errno { return b.s.Decide(u, nil) })
	}
	b.refused("one that is decided", api.ErrTurn, func() api.Errno { return b.s.Decide(tid(1), []int{2}) })
	b.refused("one that is decided", api.ErrTurn, func() api.Errno { return b.s.Decide(tid(1), nil) })
	for _, u := range edgeTids() {
		b.oks(b.s.Decide(u, nil))
	}
	b.dones("0.0[] 0.63[] 1.1[1] 1099511627776.0[] 1099511627776.63[]")
}

// P14.4: what is open is one thing, what is decided another.
func TestDecideBesideOpen(t *testing.T) {
	b := wide(t)
	b.oks(b.s.Put(tid(1), "a", "1"), b.s.Decide(tid(1), []int{1}), b.s.Put(tid(1), "b", "2"), b.s.Prepare(tid(1), nil))
	b.oks(b.s.Commit(tid(1)))
	b.dones("1.1[1]")
	b.opens("")
	b.oks(b.s.Prepare(tid(1), nil), b.s.Know(tid(1), 1))
	b.dones("")
	b.opens("1.1:0,0,0!")
}

// P14.4: with as many decided as may be.
func TestMaxDones(t *testing.T) {
	b := newBench(t, 1000, 30, 4)
	for i := range uint64(rec.MaxOpen) {
		b.oks(b.s.Decide(tid(i), []int{int(i % 64)}))
	}
	b.refused("Decide", api.ErrMany, func() api.Errno { return b.s.Decide(tid(1000), nil) })
	b.refused("one that is decided", api.ErrTurn, func() api.Errno { return b.s.Decide(tid(5), nil) })
	b.refused("a wrong node", api.ErrArg, func() api.Errno { return b.s.Decide(tid(1000), []int{64}) })
	b.refused("a wrong transaction", api.ErrArg, func() api.Errno { return b.s.Decide(api.Tid{Node: 64}, nil) })
	b.lose()
	b.refused("Decide", api.ErrMany, func() api.Errno { return b.s.Decide(tid(1000), nil) })
	b.oks(b.s.Know(tid(5), 5), b.s.Decide(tid(1000), nil), b.s.Prepare(tid(1), nil))
	if len(b.s.Dones()) != rec.MaxOpen {
		t.Error("Dones", len(b.s.Dones()))
	}
}

// P14.4: just as much room as a Decide asks for, and one sector less, behind its Check, which takes one.
func TestDecideRoom(t *testing.T) {
	for free, want := range map[int]api.Errno{9: api.OK, 8: api.ErrFull, 1: api.ErrFull} {
		b := newBench(t, 200, 60, 4)
		b.oks(b.s.Put(tid(1), "a", "1"), b.s.Check())
		b.fill(free)
		if err := b.s.Decide(tid(2), []int{1}); err != want || b.count(rec.Check) != 2 || b.s.Dead() {
			t.Error("with", free, "Decide", err, b.count(rec.Check))
		}
		b.opens("1.1:2,2,1")
		if want != api.OK {
			b.dones("")
		}
	}
	b := newBench(t, 200, 60, 4)
	b.oks(b.s.Put(tid(1), "a", "1"))
	b.fill(0)
	b.refused("Decide", api.ErrFull, func() api.Errno { return b.s.Decide(tid(2), []int{1}) })
}

// P14.4: Know of nodes that are among them, aren't, of the last one; the End isn't forced.
func TestKnow(t *testing.T) {
	b := wide(t)
	b.oks(b.s.Decide(tid(1), []int{0, 5, 63}), b.s.Decide(tid(2), []int{5}))
	for _, node := range []int{1, 64, -1, 1 << 40} {
		b.refused("Know", api.OK, func() api.Errno { return b.s.Know(tid(1), node) })
	}
	for _, u := range append(wrongTids(), tid(3)) {
		b.refused("Know", api.ErrNone, func() api.Errno { return b.s.Know(u, 5) })
	}
	b.oks(b.s.Know(tid(1), 5))
	b.dones("1.1[0,63] 2.1[5]")
	b.oks(b.s.Know(tid(1), 5), b.s.Know(tid(1), 0))
	b.dones("1.1[63] 2.1[5]")
	b.oks(b.s.Know(tid(1), 63))
	b.dones("2.1[5]")
	b.refused("Know", api.ErrNone, func() api.Errno { return b.s.Know(tid(1), 63) })
	b.log("0 Check opens [] dones []", "1 Decide 1.1 nodes [0 5 63]", "2 Decide 2.1 nodes [5]", "3 End 1.1")
	if b.safe() {
		t.Error("an End was forced")
	}
	b.oks(b.s.Decide(tid(1), []int{7}), b.s.Know(tid(2), 5))
	b.lose()
	b.dones("1.1[7] 2.1[5]")
}

// P14.4: of one that was decided for no nodes any Know is the last one.
func TestKnowOfNone(t *testing.T) {
	b := wide(t)
	b.oks(b.s.Decide(tid(1), nil), b.s.Know(tid(1), 99))
	b.dones("")
	if b.count(rec.End) != 1 {
		t.Error("no End")
	}
}

// P14.4: where there is no room for the End it stays decided, for no node, until there is.
func TestKnowRoom(t *testing.T) {
	for free, ends := range map[int]int{9: 1, 8: 1, 7: 0, 0: 0} {
		b := newBench(t, 200, 60, 4)
		b.oks(b.s.Put(tid(1), "a", "1"), b.s.Decide(tid(2), []int{1, 2}))
		b.fill(free)
		was := b.count(rec.End)
		b.oks(b.s.Know(tid(2), 1))
		b.dones("2.1[2]")
		b.oks(b.s.Know(tid(2), 2))
		if b.count(rec.End)-was != ends {
			t.Error("with", free, "Ends", b.count(rec.End)-was)
		}
		if ends == 1 {
			b.dones("")
			continue
		}
		b.dones("2.1[]")
		b.oks(b.s.Know(tid(2), 2))
		b.dones("2.1[]")
		b.refused("Decide", api.ErrTurn, func() api.Errno { return b.s.Decide(tid(2), nil) })
		b.oks(b.s.Abort(tid(1)), b.s.Know(tid(2), 1))
		b.dones("")
	}
}

// P14.4: Check with nothing open: all pages are written, and safe, and the log has the Check alone; twice in a row too.
func TestCheck(t *testing.T) {
	b := wide(t)
	b.puts(tid(1), 20)
	b.oks(b.s.Decide(tid(5), []int{2}))
	for range 3 {
		next := b.s.log.Next()
		b.oks(b.s.Check())
		if !b.safe() || b.s.pool.Dirty() != 0 || b.s.log.Start() != next {
			t.Error("waits", b.d.Waits(), "dirty", b.s.pool.Dirty(), "start", b.s.log.Start(), next)
		}
		b.log(fmt.Sprint(next, " Check opens [] dones [5.1[2]]"))
		b.has(all(20))
	}
	b.lose()
	b.has(all(20))
	b.dones("5.1[2]")
}

// P14.4: with some open the log begins at the first update of them all, also of one whose first one is behind other Checks; those without updates need none.
func TestCheckCuts(t *testing.T) {
	b := wide(t)
	b.oks(b.s.Prepare(tid(7), []string{"r"}))
	b.oks(b.s.Put(tid(8), "x", ""), b.s.Put(tid(2), "b", "2"), b.s.Put(tid(1), "a", "1"), b.s.Put(tid(1), "a", "3"), b.s.Prepare(tid(1), nil))
	b.oks(b.s.Abort(tid(8)), b.s.Check())
	opens := "1.1:6,5,2! 2.1:4,4,1 7.1:0,0,0!r"
	if start := b.s.log.Start(); start != 3 {
		t.Error("start", start)
	}
	last := b.items()[len(b.items())-1]
	is(t, "the Check", recText(last.n, last.r), fmt.Sprint(last.n, " Check opens ["+opens+"] dones []"))
	b.oks(b.s.Put(tid(2), "c", "4"), b.s.Check())
	if start := b.s.log.Start(); start != 3 {
		t.Error("start", start)
	}
	b.oks(b.s.Abort(tid(2)), b.s.Check())
	if start := b.s.log.Start(); start != 4 {
		t.Error("start", start)
	}
	b.opens("1.1:6,5,2! 7.1:0,0,0!r")
	b.lose()
	b.opens("1.1:6,5,2! 7.1:0,0,0!r")
	b.has("a=3")
	if start := b.s.log.Start(); start != 4 {
		t.Error("start", start)
	}
	next := b.s.log.Next()
	b.oks(b.s.Commit(tid(1)), b.s.Check())
	if start := b.s.log.Start(); start != next+1 {
		t.Error("start", start, "want", next+1)
	}
	b.lose()
	b.opens("7.1:0,0,0!r")
	b.has("a=3")
}

// P14.4: just as much room as the Check needs, and one sector less: of one sector, and of several.
func TestCheckRoom(t *testing.T) {
	for _, reads := range []int{0, 100} {
		open := func(free int) *bench {
			b := newBench(t, 200, 60, 4)
			b.oks(b.s.Put(tid(1), "a", "1"), b.s.Prepare(tid(2), long(reads)))
			b.fill(free)
			return b
		}
		need := 1
		if reads == 100 {
			need = 6
		}
		b := open(need)
		b.oks(b.s.Check())
		b.lose()
		if o := b.s.Opens(); len(o) != 1 || o[0].Tid != tid(2) || len(o[0].Reads) != reads {
			t.Error("Opens", b.opensText())
		}
		b = open(need - 1)
		b.refused("Check", api.ErrFull, b.s.Check)
		b.oks(b.s.Abort(tid(1)), b.s.Check())
	}
}

// P14.4: one that has too much for a record: that comes ahead of the room, and nothing is written.
func TestCheckMany(t *testing.T) {
	b := newBench(t, 800, 60, 4)
	for i := range 7 {
		b.oks(b.s.Prepare(tid(uint64(i)), long(100)))
	}
	b.refused("Check", api.ErrMany, b.s.Check)
	b.fill(0)
	b.refused("Check", api.ErrMany, b.s.Check)
	for i := range uint64(5) {
		b.oks(b.s.Commit(tid(i)))
	}
	b.oks(b.s.Check())
}
