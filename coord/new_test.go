package coord

import (
	"testing"

	"dockmaster/api"
	"dockmaster/msg"
	"dockmaster/store"
)

// P18.1: which nodes there are, and that there is to be a store; messages that go out are from the node, and of its transactions.
func TestNewArg(t *testing.T) {
	d := newDesk(t)
	for _, n := range []int{-1 << 62, -1, api.MaxNodes, api.MaxNodes + 1, 1 << 62} {
		if k, err := New(n, d.s); k != nil || err != api.ErrArg {
			t.Error(n, k != nil, err)
		}
	}
	for _, n := range []int{0, 1, api.MaxNodes - 1} {
		k, err := New(n, d.s)
		if k == nil || err != api.OK {
			t.Fatal(n, k != nil, err)
		}
		x, err := k.Begin()
		d.oks(err, k.Do(x, 2, msg.Get, "a", ""))
		if x.Node != n || !k.Open()[0].Elder(api.Tid{Num: x.Num + 1}) {
			t.Error(n, x)
		}
		if out := k.Out(); len(out) != 1 || out[0] != (msg.Msg{Kind: msg.Hello, From: n, To: 2, Tid: x}) {
			t.Error(n, out)
		}
		if k, err := New(n, nil); k != nil || err != api.ErrArg {
			t.Error(n, "without a store", k != nil, err)
		}
	}
	if Pause != 3 || PerLife != 65536 || MaxLife != 16777216 {
		t.Error(Pause, PerLife, MaxLife)
	}
}

// P18.1: there is no error of a store whose power went: the first call that lets it do something tells that.
func TestNewDown(t *testing.T) {
	d := newDesk(t)
	d.decides("7", 0, 2)
	d.d.Off()
	if err := d.s.Check(); err != api.ErrDown {
		t.Fatal(err)
	}
	if k, err := New(-1, d.s); k != nil || err != api.ErrArg {
		t.Error(k != nil, err)
	}
	d.renew()
	d.ticks("commit 7 0; commit 7 2")
	d.begins(1)
	d.does("1", 0, 7, 1)
	d.runs("commit 1 > prepare 1 0 7 1", "vote 1 0 ok > !down", "ack 7 0 > !down", "ask 7 0 > commit 7 0", "ask 8 0 > abort 8 0")
	d.stands("1?", "7:0+2")
}

// P18.1: of a store in which nothing is decided nothing is under way, and nothing said.
func TestNewNothing(t *testing.T) {
	d := newDesk(t)
	d.oks(d.s.Put(tidOf("5"), "a", "1"), d.s.Prepare(tidOf("6"), nil))
	d.renew()
	d.stands("", "")
	is(t, "news", d.news(), "")
	d.ticks("", "", "", "", "", "", "", "")
}

// P18.1, P18.5: what is decided in the store is said at the next Tick, and Pause ticks behind each one: the elder ones ahead, to those that have to know it still and to no other.
func TestNewDones(t *testing.T) {
	d := newDesk(t)
	d.decides("9", 3, 0)
	d.decides("4", 63)
	d.decides("9@0", 1)
	d.decides("2:1", 2, 5, 7)
	d.oks(d.s.Know(tidOf("2:1"), 5))
	d.decides("8")
	d.renew()
	d.stands("", "4:63 8: 9@0:1 9:0+3 2:1:2+7")
	is(t, "news", d.news(), "")
	// A transaction of another node isn't this one's to tell of, but for what the chapter says: what is decided in the store is said.
	var got []string
	for range 8 {
		d.k.Tick()
		s := ""
		for _, m := range d.k.Out() {
			s += outText(m) + "; "
		}
		got = append(got, s)
	}
	all := "commit 4 63; commit 9@0 1; commit 9 0; commit 9 3; commit 2:1 2; commit 2:1 7; "
	for i, want := range []string{all, "", "", all, "", "", all, ""} {
		is(t, "tick", got[i], want)
	}
}

// P18.5: what is known between New and the next Tick isn't said at that.
func TestNewKnown(t *testing.T) {
	d := newDesk(t)
	d.decides("9", 3, 0)
	d.decides("4", 2)
	d.renew()
	d.runs("ack 4 2 >", "ack 9 0 >")
	d.ticks("commit 9 3", "", "", "commit 9 3")
	d.runs("ack 9 3 >")
	d.stands("", "")
	d.ticks("", "", "", "", "", "")
}

// P18.1: two coordinators of one store have nothing in common but that.
func TestNewApart(t *testing.T) {
	d := newDesk(t)
	other, err := New(me, d.s)
	d.oks(err)
	d.begins(2)
	d.runs("do 1 2 get a > hello 1 2", "commit 2 > told 2 ok")
	if len(other.Open()) != 0 || len(other.Out()) != 0 || len(other.Told()) != 0 || other.Idle(tidOf("1")) {
		t.Error(other.Open())
	}
	if x, err := other.Begin(); x != tidOf("1") || err != api.OK {
		t.Error(x, err)
	}
}

// P18.1: what goes out, and what is told, is so once, in order, of all that happened since; what was told stays as it is.
func TestOutTold(t *testing.T) {
	d := newDesk(t)
	d.begins(3)
	for _, s := range []string{"do 1 2 get a", "abort 2", "do 3 0 put b v", "welcome 3 0 5", "did 3 0 1 ok=x", "ask 9 6", "commit 3", "tick", "tick", "tick", "vote 3 0 gone"} {
		d.oks(d.call(s))
	}
	out, told := d.k.Out(), d.k.Told()
	texts := func() string {
		s := ""
		for _, m := range out {
			s += outText(m) + "; "
		}
		for _, x := range told {
			s += tidText(x.Tid) + " " + valText(x.Code, x.Has, x.Val) + "; "
		}
		return s
	}
	want := "hello 1 2; hello 3 0; do 3 0 5 1 put b v; abort 9 6; prepare 3 0 5 1; hello 1 2; prepare 3 0 5 1; abort 3 0; 2 ok; 3 ok=x; 3 abort; "
	is(t, "news", texts(), want)
	is(t, "news again", d.news(), "")
	d.runs("begin >", "commit 4 > told 4 ok", "abort 1 > !turn", "welcome 1 2 8 > do 1 2 8 1 get a")
	is(t, "what was told", texts(), want)
}

// P18.1: the k-th that is begun has the number Life times PerLife and k, whatever became of those ahead; the store's Life is a greater one behind each loss.
func TestBegin(t *testing.T) {
	d := newDesk(t)
	for k := 1; k <= 300; k++ {
		x, err := d.k.Begin()
		if err != api.OK || x != (api.Tid{Num: PerLife + uint64(k), Node: me}) || !d.k.Idle(x) {
			t.Fatal(k, x, err)
		}
		if k%2 == 0 {
			d.oks(d.k.Abort(x))
		}
	}
	if n := len(d.k.Open()); n != 150 {
		t.Error(n)
	}
	d.lose()
	d.stands("", "")
	d.begins(2)
	d.stands("2:1 2:2", "")
	d.lose()
	d.begins(1)
	d.stands("3:1", "")
}

// P18.1: a store whose Life is MaxLife or more has begun all that it can.
func TestBeginMaxLife(t *testing.T) {
	d := deskIn(t, MaxLife-1)
	for k := uint64(1); k <= 2; k++ {
		if x, err := d.k.Begin(); err != api.OK || x.Num != api.MaxTid-PerLife+k {
			t.Error(k, x, err)
		}
	}
	for range 3 {
		d.lose()
		if x, err := d.k.Begin(); err != api.ErrMany || x != (api.Tid{}) {
			t.Error(d.s.Life(), x, err)
		}
		d.stands("", "")
	}
}

// P18.1: PerLife less 1 may be begun, whatever became of them, and not one more; the last one of the last life that there may be is within the bounds.
func TestBeginPerLife(t *testing.T) {
	d := deskIn(t, MaxLife-1)
	for range PerLife - 2 {
		x, err := d.k.Begin()
		d.oks(err, d.k.Commit(x))
		d.k.Told()
	}
	x, err := d.k.Begin()
	if err != api.OK || x.Num != api.MaxTid-1 {
		t.Error(x, err)
	}
	for range 3 {
		if x, err := d.k.Begin(); err != api.ErrMany || x != (api.Tid{}) {
			t.Error(x, err)
		}
	}
	last := tidText(x)
	d.stands(last, "")
	d.does(last, 2, 7, 1)
	d.runs("commit "+last+" > prepare "+last+" 2 7 1", "vote "+last+" 2 ok > commit "+last+" 2; told "+last+" ok")
	d.runs("begin > !many")
	// It is those of one coordinator that are counted.
	d.renew()
	d.begins(1)
}

// P18.5: of a nil Coord, and of one that New hasn't made.
func TestNil(t *testing.T) {
	for _, k := range []*Coord{nil, {}} {
		if x, err := k.Begin(); x != (api.Tid{}) || err != api.ErrArg {
			t.Error("Begin", x, err)
		}
		zero := api.Tid{}
		for i, err := range []api.Errno{k.Do(zero, 0, msg.Get, "a", ""), k.Do(zero, -1, 0, "", ""), k.Commit(zero), k.Abort(zero), k.Take(msg.Msg{})} {
			if err != api.ErrArg {
				t.Error(i, err)
			}
		}
		for kind := msg.Hello; kind <= msg.Ask; kind++ {
			if err := k.Take(msg.Msg{Kind: kind}); err != api.ErrArg {
				t.Error(kind, err)
			}
		}
		for range 2 * Pause {
			k.Tick()
		}
		if len(k.Out()) != 0 || len(k.Told()) != 0 || len(k.Open()) != 0 || k.Idle(zero) {
			t.Error(k.Out(), k.Told(), k.Open())
		}
	}
}

// P18.1: a store that Open hasn't made has nothing, and lets nothing be done; no call panics by it.
func TestNewEmptyStore(t *testing.T) {
	k, err := New(0, &store.Store{})
	if k == nil || err != api.OK {
		t.Fatal(err)
	}
	if x, err := k.Begin(); x != (api.Tid{Num: 1}) || err != api.OK {
		t.Error(x, err)
	}
}
