package store

import (
	"strings"
	"testing"

	"dockmaster/api"
	"dockmaster/disk"
	"dockmaster/page"
	"dockmaster/rec"
	"dockmaster/space"
)

// P14.5: of a store with none, one, several transactions; the elder ones ahead.
func TestLists(t *testing.T) {
	b := wide(t)
	b.opens("")
	b.dones("")
	b.has("")
	b.touchedFails(tid(1), api.ErrNone)
	b.oks(b.s.Put(tid(5), "b", "2"))
	b.opens("5.1:2,2,1")
	b.touched(tid(5), "b")
	b.oks(b.s.Prepare(api.Tid{Num: 5, Node: 0}, nil), b.s.Put(tid(300), "a", "1"), b.s.Put(api.Tid{Num: 5, Node: 2}, "c", "3"), b.s.Put(tid(4), "d", "4"))
	b.opens("4.1:6,6,1 5.0:0,0,0! 5.1:2,2,1 5.2:5,5,1 300.1:4,4,1")
	b.oks(b.s.Decide(tid(300), nil), b.s.Decide(api.Tid{Num: 5, Node: 2}, nil), b.s.Decide(tid(5), nil), b.s.Decide(tid(4), nil))
	b.dones("4.1[] 5.1[] 5.2[] 300.1[]")
	b.has("a=1 b=2 c=3 d=4")
	b.touched(api.Tid{Num: 5, Node: 0}, "")
	b.touched(tid(300), "a")
	for _, u := range append(wrongTids(), tid(6)) {
		b.touchedFails(u, api.ErrNone)
	}
}

// P14.5: the keys that were touched, in order, each once, also those that are as they were, or weren't there; of one that is prepared, and behind a Check.
func TestTouched(t *testing.T) {
	b := wide(t)
	one := tid(1)
	b.oks(b.s.Put(one, "c", "1"), b.s.Put(tid(2), "d", "1"), b.s.Put(one, "a", "1"), b.s.Put(one, "c", "1"), b.s.Drop(one, "b"), b.s.Drop(one, "a"))
	b.touched(one, "a b c")
	b.oks(b.s.Prepare(one, []string{"r"}))
	b.touched(one, "a b c")
	b.oks(b.s.Check())
	b.touched(one, "a b c")
	b.touched(tid(2), "d")
	b.lose()
	b.touched(one, "a b c")
	b.touchedFails(tid(2), api.ErrNone)
	b.oks(b.s.Commit(one))
	b.touchedFails(one, api.ErrNone)
}

// P14.5: of one whose updates are undone in part.
func TestTouchedInPart(t *testing.T) {
	b := inPart(t)
	b.opens("1.1:8,3,2!")
	b.touched(tid(1), "a b")
	b.oks(b.s.Check())
	b.lose()
	b.opens("1.1:8,3,2!")
	b.touched(tid(1), "a b")
	b.oks(b.s.Commit(tid(1)))
	b.has("a==a b==b")
}

// P14.5: what leads to no update can't be told; the same is told of it by Abort.
func TestTouchedBad(t *testing.T) {
	for _, last := range []uint64{1, 2, 50, 1 << 62} {
		wrong := rec.Open{Tid: tid(1), Last: last, Ready: true}
		b := lay(t, Conf{Log: 100, Pages: 30}, rec.Rec{Kind: rec.Check}, rec.Rec{Kind: rec.Check, Opens: []rec.Open{wrong}})
		b.open()
		b.touchedFails(tid(1), api.ErrBad)
		b.refused("Abort", api.ErrBad, func() api.Errno { return b.s.Abort(tid(1)) })
		b.oks(b.s.Commit(tid(1)))
	}
}

// Rule 4: what is told is new memory.
func TestAnswersAreApart(t *testing.T) {
	b := wide(t)
	b.oks(b.s.Put(tid(1), "a", "1"), b.s.Put(tid(1), "b", "2"), b.s.Prepare(tid(1), []string{"r", "s"}), b.s.Decide(tid(1), []int{1, 2}))
	before := b.text()
	keys, _ := b.s.Touched(tid(1))
	m, _ := b.s.Map()
	opens, dones := b.s.Opens(), b.s.Dones()
	clear(keys)
	clear(m)
	clear(opens[0].Reads)
	clear(opens)
	clear(dones[0].Nodes)
	clear(dones)
	is(t, "the store", b.text(), before)
	b.touched(tid(1), "a b")
	b.lose()
	b.opens("1.1:3,2,2!r+s")
	b.dones("1.1[1,2]")
	// What came from the log is apart, too.
	opens, dones = b.s.Opens(), b.s.Dones()
	clear(opens[0].Reads)
	clear(dones[0].Nodes)
	b.opens("1.1:3,2,2!r+s")
	b.dones("1.1[1,2]")
}

// P14.5: pages that aren't a tree's, and such as are.
func TestMapBad(t *testing.T) {
	c := Conf{Log: 100, Pages: 60, Room: 4}
	inner := space.Change{N: 3, P: page.Page{Kind: page.Inner, Keys: []string{"d"}, Kids: []int{1, 2}}}
	for _, x := range []struct {
		pages []space.Change
		want  api.Errno
	}{
		{list(meta(1, 2), leaf(1, "b", "c")), api.OK},
		{list(meta(3, 4), leaf(1, "a", "b", "c"), leaf(2, "d", "e", "f"), inner), api.OK},
		{list(meta(3, 4), leaf(1, "a", "b", "c"), leaf(2, "d", "e"), inner), api.ErrBad},
		{list(meta(3, 4), leaf(1, "a", "b", "d"), leaf(2, "e", "f", "g"), inner), api.ErrBad},
		{list(meta(1, 2), space.Change{N: 1, P: page.Page{Kind: page.Free}}), api.ErrBad},
		{list(meta(5, 9)), api.ErrBad},
		{list(meta(9, 9)), api.ErrBad},
		{list(meta(3, 4), leaf(1, "a", "b", "c"), space.Change{N: 3, P: page.Page{Kind: page.Inner, Keys: []string{"d"}, Kids: []int{1, 9}}}), api.ErrBad},
		{list(leaf(0, "a")), api.ErrBad},
	} {
		b := lay(t, c, rec.Rec{Kind: rec.Check}, rec.Rec{Kind: rec.Update, Tid: tid(1), Key: "k", Pages: x.pages}, rec.Rec{Kind: rec.Prepare, Tid: tid(1)})
		b.open()
		if m, err := b.s.Map(); err != x.want || err != api.OK && len(m) > 0 || b.s.Dead() {
			t.Error("Map", numbers(x.pages), m, err, "want", x.want)
		}
	}
}

// P14.5: of a nil Store ErrArg, none, 0; no call of a zero one panics.
func TestNilStore(t *testing.T) {
	var s *Store
	none := func(what string, err api.Errno) {
		t.Helper()
		if err != api.ErrArg {
			t.Error(what, err)
		}
	}
	v, has, err := s.Get("a")
	none("Get", err)
	m, err := s.Map()
	none("Map", err)
	keys, err := s.Touched(tid(1))
	none("Touched", err)
	none("Put", s.Put(tid(1), "a", ""))
	none("Put", s.Put(tid(1), strings.Repeat("k", 99), ""))
	none("Drop", s.Drop(tid(1), "a"))
	none("Prepare", s.Prepare(tid(1), reads(101)))
	none("Commit", s.Commit(tid(1)))
	none("Abort", s.Abort(tid(1)))
	none("Decide", s.Decide(tid(1), nil))
	none("Know", s.Know(tid(1), 1))
	none("Check", s.Check())
	if v != "" || has || len(m)+len(keys)+len(s.Opens())+len(s.Dones()) > 0 || s.Life() != 0 || s.Dead() {
		t.Error("a nil Store has something")
	}
	s = &Store{}
	s.Get("a")
	s.Map()
	s.Put(tid(1), "a", "")
	s.Drop(tid(1), "a")
	s.Prepare(tid(1), nil)
	s.Decide(tid(1), nil)
	s.Commit(tid(1))
	s.Abort(tid(1))
	s.Know(tid(1), 1)
	s.Check()
	s.Touched(tid(1))
	s.Life()
	if len(s.Opens())+len(s.Dones()) > 0 || s.Dead() {
		t.Error("a zero Store has something")
	}
}

// ended is every call that may answer an error.
func ended(s *Store) map[string]api.Errno {
	_, _, get := s.Get("a")
	_, wrong, long := s.Get("")
	m, all := s.Map()
	keys, touched := s.Touched(tid(1))
	if wrong || s.Dead() && len(m)+len(keys) > 0 {
		all = api.ErrBad
	}
	return map[string]api.Errno{
		"Get": get, "Get of no key": long, "Map": all, "Touched": touched,
		"Put": s.Put(tid(1), "a", ""), "Put of no key": s.Put(tid(1), "", ""), "Drop": s.Drop(api.Tid{Node: -1}, "a"),
		"Prepare": s.Prepare(tid(1), nil), "Prepare of many": s.Prepare(tid(1), reads(101)), "Commit": s.Commit(tid(77)), "Abort": s.Abort(tid(77)),
		"Decide": s.Decide(tid(1), []int{64}), "Know": s.Know(tid(77), 1), "Check": s.Check(),
	}
}

// P14.1: a store of which any call met the end of the power is Dead: all calls with an error answer ErrDown, until it is opened anew, also when the power is there; the others tell what they told.
func TestDead(t *testing.T) {
	for name, call := range map[string]func(s *Store) api.Errno{
		"Put":     func(s *Store) api.Errno { return s.Put(tid(1), "z", "1") },
		"Drop":    func(s *Store) api.Errno { return s.Drop(tid(1), "a") },
		"Prepare": func(s *Store) api.Errno { return s.Prepare(tid(1), nil) },
		"Commit":  func(s *Store) api.Errno { return s.Commit(tid(2)) },
		"Abort":   func(s *Store) api.Errno { return s.Abort(tid(2)) },
		"Decide":  func(s *Store) api.Errno { return s.Decide(tid(1), nil) },
		"Know":    func(s *Store) api.Errno { return s.Know(tid(3), 1) },
		"Check":   func(s *Store) api.Errno { return s.Check() },
		"Map":     func(s *Store) api.Errno { _, err := s.Map(); return err },
		"Get":     func(s *Store) api.Errno { _, _, err := s.Get(keyOf(0)); return err },
		"Touched": func(s *Store) api.Errno { _, err := s.Touched(tid(2)); return err },
	} {
		for _, fuse := range []int{0, 1, 2} {
			b := wide(t)
			b.puts(tid(9), 30)
			b.oks(b.s.Put(tid(2), keyOf(1), "2"), b.s.Put(tid(2), keyOf(14), "2"), b.s.Put(tid(2), keyOf(29), "2"), b.s.Prepare(tid(2), nil), b.s.Decide(tid(3), []int{1}))
			opens, dones, life := b.opensText(), b.donesText(), b.s.Life()
			if fuse == 0 {
				b.d.Off()
			}
			b.d.Fuse(fuse)
			err := call(b.s)
			if !b.d.Down() {
				continue
			}
			if err != api.ErrDown || !b.s.Dead() {
				t.Error(name, fuse, err, b.s.Dead())
			}
			for what, err := range ended(b.s) {
				if err != api.ErrDown {
					t.Error("behind", name, what, err)
				}
			}
			b.d.On(nil, -1)
			for what, err := range ended(b.s) {
				if err != api.ErrDown {
					t.Error("behind", name, what, "with the power there", err)
				}
			}
			is(t, "Opens", b.opensText(), opens)
			is(t, "Dones", b.donesText(), dones)
			if b.s.Life() != life || !b.s.Dead() {
				t.Error("life", b.s.Life(), b.s.Dead())
			}
			b.open()
			b.dones("3.1[1]")
			if b.s.Dead() || b.s.Life() != life+1 {
				t.Error("opened anew it is Dead")
			}
		}
	}
}

// P14.1: without power, but with all pages held, what can be told still is.
func TestWithoutPower(t *testing.T) {
	b := newBench(t, 400, 100, 50)
	b.oks(b.s.Put(tid(1), "a", "1"), b.s.Put(tid(1), "b", "1"))
	b.d.Off()
	b.gets("a", "1")
	is(t, "Map", b.mapText(), "a=1 b=1")
	b.opens("1.1:3,2,2")
	if b.s.Dead() {
		t.Error("it is Dead")
	}
	b.touchedFails(tid(1), api.ErrDown)
	if !b.s.Dead() {
		t.Error("it isn't Dead")
	}
}

// P14.5: where the power goes while Map goes through the keys, it tells none rather than some: also where the page that it wrote then was held until late.
func TestMapCutOff(t *testing.T) {
	for count := 1; count < 40; count++ {
		for fuse := 1; ; fuse++ {
			b := newBench(t, 2000, 700, 4)
			b.puts(tid(1), count)
			b.oks(b.s.Check(), b.s.Put(tid(2), keyOf(0), "x"))
			b.d.Fuse(fuse)
			m, err := b.s.Map()
			if !b.d.Down() {
				if len(m) != count || err != api.OK || b.s.Dead() {
					t.Error("Map", count, fuse, len(m), err)
				}
				break
			}
			if len(m) > 0 || err != api.ErrDown || !b.s.Dead() {
				t.Error("Map", count, fuse, len(m), err, b.s.Dead())
			}
		}
	}
}

// P14.1: so many pages are held as the Conf says.
func TestRoomOfPages(t *testing.T) {
	for _, room := range []int{4, 9, 1000} {
		b := newBench(t, 2000, 700, room)
		b.puts(tid(1), 40)
		b.has(all(40))
		if held := b.s.pool.Held(); held > room || held < min(room, 9) {
			t.Error("room", room, "held", held)
		}
	}
}

// Rule 1: a disk whose store has been opened by others meanwhile, or that is another one's, lets no call panic.
func TestAnyDisk(t *testing.T) {
	c := Conf{Log: 100, Pages: 40, Room: 4}
	for at := range 130 {
		d := disk.New(140)
		b := &bench{t: t, d: d, c: c}
		b.open()
		b.oks(b.s.Put(tid(1), "a", "1"), b.s.Prepare(tid(1), nil), b.s.Check())
		old, _ := d.Read(at)
		for _, turn := range [][]byte{nil, []byte("x"), append([]byte{1, 2, 3}, old[3:]...)} {
			d.Write(at, turn)
			if s, err := Open(d, c); err == api.OK {
				ended(s)
				s.Opens()
				s.Dones()
			}
		}
	}
}
