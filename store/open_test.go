package store

import (
	"bytes"
	"fmt"
	"math"
	"testing"

	"dockmaster/api"
	"dockmaster/disk"
	"dockmaster/num"
	"dockmaster/page"
	"dockmaster/rec"
	"dockmaster/space"
	"dockmaster/wal"
)

// P14.1: the bounds of a Conf; what is held may be anything.
func TestRight(t *testing.T) {
	if PerUpdate != 29 || PerPages != 13 || PerTx != 8 || LeastLog != 100 {
		t.Error("what is set aside", PerUpdate, PerPages, PerTx, LeastLog)
	}
	for _, x := range []struct {
		log, pages int
		want       bool
	}{
		{99, 26, false}, {100, 26, true}, {100, 25, false}, {101, 27, true},
		{100, 65436, true}, {100, 65437, false}, {30000, 35536, true}, {30000, 35537, false},
		{65510, 26, true}, {65511, 26, false}, {65511, 25, false},
		{65536, 0, false}, {65536, 26, false}, {65537, -1, false}, {65537, 26, false}, {65537, 0, false},
		{0, 0, false}, {-100, 26, false}, {-1, 65537, false}, {100, -26, false}, {100, 0, false},
		{math.MinInt, 26, false}, {math.MaxInt, 26, false}, {100, math.MinInt, false}, {100, math.MaxInt, false},
		{math.MinInt, math.MaxInt, false}, {math.MaxInt, math.MaxInt, false},
	} {
		for _, room := range []int{0, 4, -1, math.MaxInt, math.MinInt} {
			if c := (Conf{Log: x.log, Pages: x.pages, Room: room}); c.Right() != x.want {
				t.Error(c, c.Right())
			}
		}
	}
}

// P14.1: the greatest stores, and any number of pages that are held.
func TestOpenBounds(t *testing.T) {
	for _, c := range []Conf{
		{100, 26, 4}, {100, 65436, 0}, {65510, 26, -5}, {100, 30, math.MinInt}, {100, 30, math.MaxInt},
	} {
		b := &bench{t: t, d: disk.New(c.Log + c.Pages), c: c}
		b.open()
		if c.Pages > 26 {
			b.puts(tid(1), 1)
			b.lose()
			b.has("k000=0")
		}
	}
}

// P14.1: errors of Open, of which none leaves anything: a Conf that isn't Right, no disk, one that is too small, one without power.
func TestOpenRefuses(t *testing.T) {
	c := Conf{Log: 100, Pages: 30, Room: 4}
	for size, want := range map[int]api.Errno{0: api.ErrArg, 1: api.ErrArg, 99: api.ErrArg, 100: api.ErrArg, 129: api.ErrArg, 130: api.OK} {
		d := disk.New(size)
		s, err := Open(d, c)
		if err != want || (s != nil) != (want == api.OK) || (d.Steps() > 0) != (want == api.OK) {
			t.Error("a disk of", size, err, s != nil, d.Steps())
		}
	}
	b := &bench{t: t, c: c}
	b.openFails(api.ErrArg)
	b.c.Log = 99
	b.openFails(api.ErrArg)

	b = &bench{t: t, d: disk.New(500), c: c}
	b.d.Off()
	b.openFails(api.ErrDown)
	for _, wrong := range []Conf{{99, 30, 4}, {100, 25, 4}, {}, {-1, -1, -1}, {100, 65437, 4}, {math.MaxInt, math.MaxInt, 4}} {
		b.c = wrong
		b.openFails(api.ErrArg)
	}
	// The log's errors come ahead of the pages'.
	b = &bench{t: t, d: disk.New(120), c: c}
	b.d.Off()
	b.openFails(api.ErrDown)
	b = &bench{t: t, d: disk.New(99), c: c}
	b.d.Off()
	b.openFails(api.ErrArg)
}

// P14.1: on a fresh disk there are page 0 and a Check, both safe.
func TestOpenFresh(t *testing.T) {
	b := newBench(t, 100, 30, 4)
	if !b.safe() || b.s.Life() != 1 || b.s.Dead() {
		t.Error("waits", b.d.Waits(), "life", b.s.Life(), b.s.Dead())
	}
	b.log("0 Check opens [] dones []")
	b.has("")
	b.opens("")
	b.dones("")
	for at := range b.d.Len() {
		got, err := b.d.Read(at)
		want := make([]byte, api.Sector)
		if at == 100 {
			laid, _ := page.Encode(space.First(), 0)
			copy(want, laid)
		}
		if at >= 3 && (err != api.OK || !bytes.Equal(got, want)) {
			t.Error("sector", at, err, got)
		}
	}
	b.lose()
	b.log("1 Check opens [] dones []")
	b.has("")
}

// P14.1: what stands on the pages of a log without a Check is nothing; nor is what such a log says.
func TestOpenFreshOverRests(t *testing.T) {
	for _, rests := range [][]rec.Rec{
		nil,
		{{Kind: rec.Update, Tid: tid(1), Key: "a"}, {Kind: rec.Decide, Tid: tid(2)}, {Kind: rec.Prepare, Tid: tid(3)}},
	} {
		b := lay(t, Conf{Log: 100, Pages: 40, Room: 4}, rests...)
		b.d.Write(100, []byte("no page"))
		b.d.Sync()
		b.open()
		b.has("")
		b.opens("")
		b.dones("")
		b.puts(tid(1), 1)
		b.lose()
		b.has("k000=0")
	}
	b := lay(t, Conf{Log: 100, Pages: 40, Room: 4})
	b.d.Write(100, []byte("torn"))
	b.d.On(nil, 0)
	b.open()
	b.has("")
}

// P14.1: a log full of records without a Check has no room for the first one: that is told.
func TestOpenFreshFull(t *testing.T) {
	b := lay(t, Conf{Log: 100, Pages: 30, Room: 4})
	for b.s.log.Free() > 1 {
		b.layMore(rec.Rec{Kind: rec.End})
	}
	b.open()
	b = lay(t, Conf{Log: 100, Pages: 30, Room: 4})
	for b.s.log.Free() > 0 {
		b.layMore(rec.Rec{Kind: rec.End})
	}
	b.openFails(api.ErrFull)
	b.openFails(api.ErrFull)
}

// P14.1: an entry that is no record, wherever it stands.
func TestOpenNoRecord(t *testing.T) {
	check, _ := rec.Encode(rec.Rec{Kind: rec.Check})
	for _, wrong := range [][]byte{nil, {0}, []byte("x"), append(check, 0), check[:3], make([]byte, wal.Most), {4, 5, 64}} {
		for ahead := range 3 {
			b := newBench(t, 100, 30, 4)
			b.puts(tid(1), 1)
			if ahead == 0 {
				b.oks(b.s.log.Cut(b.s.log.Next()))
			}
			if _, err := b.s.log.Append(wrong); err != api.OK {
				t.Fatal(err)
			}
			if ahead == 1 {
				b.layMore(rec.Rec{Kind: rec.Check})
			}
			b.openFails(api.ErrBad)
			b.openFails(api.ErrBad)
		}
	}
}

// P14.1: each opening is a new Life; there is a last one.
func TestOpenLives(t *testing.T) {
	b := newBench(t, 100, 30, 4)
	for life := range uint64(10) {
		if b.s.Life() != life+1 {
			t.Error("life", b.s.Life(), "want", life+1)
		}
		if life%2 == 0 {
			b.lose()
		} else {
			b.open()
		}
	}
	d := disk.New(200)
	d.Write(0, master(2, wal.MaxLife-1))
	b = &bench{t: t, d: d, c: Conf{Log: 100, Pages: 30}}
	b.open()
	if b.s.Life() != wal.MaxLife {
		t.Error("life", b.s.Life())
	}
	b.openFails(api.ErrMany)
}

// master is a master sector of the log, of a writing and a life.
func master(writing, life uint64) []byte {
	b := num.Text(nil, "dock")
	for _, n := range []uint64{writing, life, 0, life} {
		b = num.Put(b, n)
	}
	return b
}

// meta is a meta page with a root, and so many pages that were had.
func meta(root, size int) space.Change {
	return space.Change{N: 0, P: page.Page{Kind: page.Meta, Root: root, Size: size}}
}

// leaf is a leaf with keys, each with an = and itself under it.
func leaf(n int, keys ...string) space.Change {
	p := page.Page{Kind: page.Leaf, Keys: keys}
	for _, k := range keys {
		p.Vals = append(p.Vals, "="+k)
	}
	return space.Change{N: n, P: p}
}

// P14.1: what records say, laid by another hand, is there: images, what is open, what is decided; what is lost is undone, the elder ones ahead; a Check comes behind.
func TestOpenPlan(t *testing.T) {
	c := Conf{Log: 200, Pages: 100, Room: 4}
	one, two, three, four := tid(1), tid(2), tid(3), api.Tid{Num: 3, Node: 2}
	b := lay(t, c,
		rec.Rec{Kind: rec.Check, Dones: []rec.Done{{Tid: one, Nodes: []int{1, 2}}, {Tid: two}}},
		rec.Rec{Kind: rec.Update, Tid: four, Key: "d", Pages: []space.Change{meta(1, 2), leaf(1, "d")}},
		rec.Rec{Kind: rec.Update, Tid: three, Key: "c", Was: true, Old: "old", Pages: []space.Change{leaf(1, "c", "d")}},
		rec.Rec{Kind: rec.Update, Tid: one, Key: "b", Pages: []space.Change{leaf(1, "b", "c", "d")}},
		rec.Rec{Kind: rec.Prepare, Tid: one, Reads: []string{"x", "y"}},
		rec.Rec{Kind: rec.Prepare, Tid: two},
		rec.Rec{Kind: rec.Update, Tid: tid(9), Key: "a", Pages: []space.Change{leaf(1, "a", "b", "c", "d"), {N: 50, P: page.Page{Kind: page.Free}}}},
		rec.Rec{Kind: rec.Prepare, Tid: tid(9)},
		rec.Rec{Kind: rec.Commit, Tid: tid(9)},
		rec.Rec{Kind: rec.Decide, Tid: four, Nodes: []int{0, 63}},
		rec.Rec{Kind: rec.End, Tid: two},
	)
	b.open()
	b.has("a==a b==b c=old")
	b.opens("1.1:5,5,1!x+y 2.1:0,0,0!")
	b.dones("1.1[1,2] 3.2[0,63]")
	b.touched(one, "b")
	b.touched(two, "")
	b.log(
		`4 Update 1.1 b was false "" prev 0 pages [1]`,
		"5 Prepare 1.1 reads [x y]",
		"6 Prepare 2.1 reads []",
		`7 Update 9.1 a was false "" prev 0 pages [1 50]`,
		"8 Prepare 9.1 reads []",
		"9 Commit 9.1",
		"10 Decide 3.2 nodes [0 63]",
		"11 End 2.1",
		"12 Undo 3.1 prev 0 pages [1]",
		"13 Abort 3.1",
		"14 Undo 3.2 prev 0 pages [1]",
		"15 Abort 3.2",
		"16 Check opens [1.1:5,5,1!x+y 2.1:0,0,0!] dones [1.1[1,2] 3.2[0,63]]",
	)
	if !b.safe() {
		t.Error("the Check isn't safe")
	}
}

// P14.1: the first error: an image of a page that there isn't, what leads to no update.
func TestOpenErrors(t *testing.T) {
	c := Conf{Log: 100, Pages: 30, Room: 4}
	image := rec.Rec{Kind: rec.Update, Tid: tid(1), Key: "a", Pages: []space.Change{leaf(30, "a")}}
	b := lay(t, c, rec.Rec{Kind: rec.Check}, image)
	b.openFails(api.ErrArg)
	b.c.Pages = 31
	b.open()

	for _, last := range []uint64{1, 2, 3, 4, 5, 90, 1 << 62} {
		lost := rec.Open{Tid: tid(1), Last: last, First: 1, Count: 1}
		b = lay(t, c, rec.Rec{Kind: rec.Check, Opens: []rec.Open{lost}}, rec.Rec{Kind: rec.Commit, Tid: tid(1)},
			rec.Rec{Kind: rec.Update, Tid: tid(2), Key: "k"}, rec.Rec{Kind: rec.Abort, Tid: tid(2)}, rec.Rec{Kind: rec.Check, Opens: []rec.Open{lost}})
		b.openFails(api.ErrBad)
	}
	for _, prev := range []uint64{2, 3, 50, 1 << 62} {
		for _, kind := range []int{rec.Update, rec.Undo} {
			r := rec.Rec{Kind: kind, Tid: tid(1), Prev: prev}
			if kind == rec.Update {
				r.Key = "k"
			}
			b = lay(t, c, rec.Rec{Kind: rec.Check}, r)
			b.openFails(api.ErrBad)
		}
	}
	// Page 0 is none that tells of pages, and it has to be asked.
	update := rec.Rec{Kind: rec.Update, Tid: tid(1), Key: "k", Pages: []space.Change{leaf(0, "k")}}
	b = lay(t, c, rec.Rec{Kind: rec.Check}, update)
	b.openFails(api.ErrBad)
}

// P14.1: the Check at the end may have no room, in the log or in a record: the store is opened all the same.
func TestOpenWithoutCheck(t *testing.T) {
	b := newBench(t, 200, 60, 4)
	b.oks(b.s.Put(tid(1), "a", "1"), b.s.Prepare(tid(1), nil))
	b.fill(0)
	b.oks(b.s.log.Force())
	checks := b.count(rec.Check)
	next := b.s.log.Next()
	for range 3 {
		b.lose()
		b.has("a=1")
		b.opens("1.1:2,2,1!")
		if b.count(rec.Check) != checks || b.s.log.Next() != next {
			t.Error("a Check without room")
		}
	}
	b.oks(b.s.Abort(tid(1)), b.s.Check())
	b.has("")

	b = newBench(t, 4000, 60, 4)
	for i := range 20 {
		b.oks(b.s.Prepare(tid(uint64(i)), long(100)))
	}
	b.refused("Check", api.ErrMany, b.s.Check)
	next = b.s.log.Next()
	b.lose()
	if len(b.s.Opens()) != 20 || b.s.log.Next() != next {
		t.Error("opens", len(b.s.Opens()))
	}
	b.oks(b.s.Commit(tid(0)), b.s.Abort(tid(19)))
	b.lose()
	if len(b.s.Opens()) != 18 {
		t.Error("opens", len(b.s.Opens()))
	}
}

// long is so many keys of 24 bytes that rise.
func long(count int) []string {
	out := []string{}
	for i := range count {
		out = append(out, fmt.Sprintf("%024d", i))
	}
	return out
}

// P14.1: what is undone while the store is opened takes what was set aside.
func TestOpenUndoesWhereFull(t *testing.T) {
	b := newBench(t, 200, 80, 4)
	for i := range 3 {
		b.oks(b.s.Put(tid(1), keyOf(i), "x"))
	}
	b.fill(0)
	b.oks(b.s.log.Force())
	b.lose()
	b.has("")
	b.opens("")
	next := b.s.log.Next() - 1
	b.log(fmt.Sprint(next, " Check opens [] dones []"))

	// Without the Check at the end what was undone stays so, and isn't undone once more.
	b = newBench(t, 200, 80, 4)
	b.oks(b.s.Put(tid(1), "a", "x"), b.s.Put(tid(1), "b", "y"))
	for b.s.log.Free() > 3 {
		b.layMore(rec.Rec{Kind: rec.End})
	}
	for range 3 {
		b.lose()
		b.has("")
		b.opens("")
		if b.count(rec.Undo) != 2 || b.count(rec.Abort) != 1 || b.count(rec.Check) != 1 {
			t.Error("the log", b.count(rec.Undo), b.count(rec.Abort), b.count(rec.Check))
		}
		b.oks(b.s.log.Force())
	}
}
