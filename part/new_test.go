package part

import (
	"testing"

	"dockmaster/api"
	"dockmaster/lock"
	"dockmaster/msg"
	"dockmaster/store"
)

// P17.1: which nodes there are, and that there is to be a store.
func TestNewArg(t *testing.T) {
	d := newDesk(t)
	for _, n := range []int{-1 << 62, -1, api.MaxNodes, api.MaxNodes + 1, 1 << 62} {
		if p, err := New(n, d.s); p != nil || err != api.ErrArg {
			t.Error(n, p != nil, err)
		}
	}
	for _, n := range []int{0, 1, api.MaxNodes - 1} {
		p, err := New(n, d.s)
		if p == nil || err != api.OK {
			t.Fatal(n, p != nil, err)
		}
		m := msg.Msg{Kind: msg.Hello, Tid: api.Tid{Num: 3, Node: 2}, From: 2, To: n}
		if err := p.Take(m); err != api.OK {
			t.Error(n, err)
		}
		if out := p.Out(); len(out) != 1 || out[0] != (msg.Msg{Kind: msg.Welcome, From: n, To: 2, Tid: m.Tid, Life: d.s.Life()}) {
			t.Error(n, out)
		}
		if p, err := New(n, nil); p != nil || err != api.ErrArg {
			t.Error(n, "without a store", p != nil, err)
		}
	}
	if Pause != 4 {
		t.Error(Pause)
	}
}

// P17.1: the store's error: of one whose power went, whether or not anything is open there.
func TestNewDown(t *testing.T) {
	for _, open := range []bool{false, true} {
		d := newDesk(t)
		if open {
			d.oks(d.s.Put(tidOf("5"), "a", "1"))
		}
		d.d.Off()
		if err := d.s.Check(); err != api.ErrDown {
			t.Fatal(err)
		}
		if p, err := New(me, d.s); p != nil || err != api.ErrDown {
			t.Error(open, p != nil, err)
		}
		if p, err := New(-1, d.s); p != nil || err != api.ErrArg {
			t.Error(open, p != nil, err)
		}
	}
}

// P17.1: the store's error also where it comes to see only now that its power went.
func TestNewTouched(t *testing.T) {
	d := newDesk(t)
	d.oks(d.s.Prepare(tidOf("3"), []string{"b"}), d.s.Put(tidOf("5"), "a", "1"))
	d.d.Off()
	if p, err := New(me, d.s); p != nil || err != api.ErrDown || !d.s.Dead() {
		t.Error(p != nil, err)
	}
}

// P17.1: of a store in which nothing is open nothing is known, and nothing locked.
func TestNewNothing(t *testing.T) {
	d := newDesk(t)
	d.stands("", "")
	is(t, "Out", d.out(), "")
	d.puts("a=1", "b=2")
	d.stands("", "")
	is(t, "Out", d.out(), "")
}

// P17.1: what is open in the store, prepared or not, of several nodes, and its locks.
func TestNewOpens(t *testing.T) {
	d := newDesk(t)
	d.puts("a=1", "b=2", "c=3")
	ready, turns, reads, tiny := tidOf("7"), tidOf("7.3"), tidOf("2.63"), tidOf("0.5")
	d.oks(d.s.Put(ready, "b", "x"), d.s.Drop(ready, "a"), d.s.Put(ready, "b", "y"), d.s.Prepare(ready, []string{"r", "q"}))
	d.oks(d.s.Put(turns, "n", "x"), d.s.Drop(turns, "m"))
	d.oks(d.s.Prepare(reads, []string{"r", "c"}))
	d.oks(d.s.Prepare(tiny, nil))
	d.renew()
	d.stands("0.5! 2.63! 7! 7.3", "a=7w b=7w c=2.63r m=7.3w n=7.3w q=7r r=2.63r+7r")
	is(t, "Out", d.out(), "")
	for _, s := range []string{"7.1", "8", "2.62"} {
		if d.p.Ready(tidOf(s)) {
			t.Error(s, "is ready")
		}
	}
	// What is open goes on: of the one that isn't prepared nothing is known to be done.
	d.takes(
		"do 7.3 2 put z v >",
		"do 7.3 0 put z v >",
		"do 7.3 1 get n > did 7.3 1 ok=x",
		"prepare 7.3 1 > vote 7.3 ok",
		"do 7 1 put z v >",
		"prepare 7 0 @0 > vote 7 ok",
		"commit 2.63 > ack 2.63",
		"abort 7 >",
	)
	d.stands("0.5! 7.3!", "m=7.3w n=7.3w")
	d.has("a=1 b=2 c=3 n=x")
}

// P17.1: a key that was undone isn't Touched any more; one that is both turned and read is there to be written.
func TestNewBoth(t *testing.T) {
	d := newDesk(t)
	d.oks(d.s.Put(tidOf("5"), "a", "1"), d.s.Abort(tidOf("5")), d.s.Put(tidOf("5"), "b", "1"), d.s.Prepare(tidOf("5"), []string{"b", "c"}))
	d.renew()
	d.stands("5!", "b=5w c=5r")
}

// P17.1: two parts of one store have nothing in common but that.
func TestNewApart(t *testing.T) {
	d := newDesk(t)
	other, err := New(2, d.s)
	d.oks(err)
	d.takes("do 5 1 put a 1 > did 5 1 ok")
	if len(other.Open()) != 0 || len(other.Out()) != 0 || other.Locks().Len() != 0 {
		t.Error(other.Open())
	}
}

// P17.1: what goes out is told once, in order, of all that happened since, and what was told is apart from what comes.
func TestOut(t *testing.T) {
	d := newDesk(t)
	for _, s := range []string{"hello 5.2", "do 5 1 put a 1", "hello 3", "do 9 1 get a", "commit 1.63", "do 3 2 get a"} {
		d.oks(d.p.Take(d.msgOf(s)))
	}
	for range Pause {
		d.p.Tick()
	}
	first := d.p.Out()
	var texts string
	for _, m := range first {
		texts += outText(m) + "; "
	}
	want := "welcome 5.2 1; did 5 1 ok; welcome 3 1; did 9 1 died; ack 1.63; did 3 2 gone; ask 5; "
	is(t, "Out", texts, want)
	is(t, "Out again", d.out(), "")
	d.takes("hello 8 > welcome 8 1")
	texts = ""
	for _, m := range first {
		texts += outText(m) + "; "
	}
	is(t, "what was told", texts, want)
}

// P17.4: of a nil Part, and of one that New hasn't made.
func TestNil(t *testing.T) {
	for _, p := range []*Part{nil, {}} {
		for _, s := range []string{"hello 5", "do 5 1 put a 1", "prepare 5 0", "commit 5", "abort 5"} {
			m := (&desk{t: t, s: &store.Store{}}).text(s)
			if err := p.Take(m); err != api.ErrArg {
				t.Error(s, err)
			}
		}
		if err := p.Take(msg.Msg{}); err != api.ErrArg {
			t.Error(err)
		}
		for range 2 * Pause {
			p.Tick()
		}
		if len(p.Out()) != 0 || len(p.Open()) != 0 || p.Ready(api.Tid{}) || p.Locks().Len() != 0 {
			t.Error(p.Out(), p.Open())
		}
		if a := p.Locks().Ask(api.Tid{}, "a", lock.Read); a != lock.Dies {
			t.Error("a lock of none", a)
		}
	}
}

// text is a message that comes to node 0, with Life 1, where there is no store to ask.
func (d *desk) text(s string) msg.Msg {
	if s[0] == 'd' || s[0] == 'p' {
		s += " @1"
	}
	d.s = nil
	m := d.msgOf(s)
	m.To = 0
	return m
}
