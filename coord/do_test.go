package coord

import (
	"fmt"
	"strings"
	"testing"

	"dockmaster/api"
	"dockmaster/key"
	"dockmaster/msg"
)

// P18.2: the first thing that is asked for of a node is a Hello, and behind its Welcome the Do; each next one is a Do at once, with the Life and one number more.
func TestDo(t *testing.T) {
	d := newDesk(t)
	d.begins(1)
	d.runs(
		"do 1 2 put k v > hello 1 2",
		"welcome 1 2 7 > do 1 2 7 1 put k v",
		"did 1 2 1 ok > told 1 ok",
		"do 1 2 get k > do 1 2 7 2 get k",
		"did 1 2 2 ok=v > told 1 ok=v",
		"do 1 2 drop k > do 1 2 7 3 drop k",
		"did 1 2 3 ok > told 1 ok",
		"do 1 2 get k > do 1 2 7 4 get k",
		"did 1 2 4 ok > told 1 ok",
		"do 1 2 get k > do 1 2 7 5 get k",
		"did 1 2 5 ok= > told 1 ok=",
	)
	d.stands("1", "")
}

// P18.2: of each node its own Life and its own number, of each transaction likewise; the node itself may be one of them.
func TestDoSeveral(t *testing.T) {
	d := newDesk(t)
	d.begins(2)
	d.does("1", 2, 7, 1)
	d.does("1", 0, 9, 1)
	d.does("1", 2, 7, 2)
	d.does("2", 2, 8, 1)
	d.does("1", me, 1, 1)
	d.does("2", 2, 8, 2)
	d.does("1", 0, 9, 2)
	d.does("1", 2, 7, 3)
	d.runs(
		"do 1 0 put a x > do 1 0 9 3 put a x", "do 2 63 get b > hello 2 63", "welcome 2 63 1099511627776 > do 2 63 1099511627776 1 get b", "did 1 0 3 ok > told 1 ok",
		"commit 1 > prepare 1 0 9 3; prepare 1 1 1 1; prepare 1 2 7 3",
	)
	d.stands("1? 2?", "")
}

// P18.2: what is asked for comes as it is: a key and a text of any bytes, of the greatest length; of a Put no text at all.
func TestDoTexts(t *testing.T) {
	d := newDesk(t)
	d.begins(1)
	k, v := strings.Repeat("\xff", api.MaxKey), strings.Repeat("\x00", api.MaxVal)
	d.oks(d.k.Do(tidOf("1"), 0, msg.Put, k, v), d.call("welcome 1 0 3"))
	if out := d.k.Out(); len(out) != 2 || out[1] != (msg.Msg{Kind: msg.Do, From: me, To: 0, Tid: tidOf("1"), Life: 3, N: 1, Op: msg.Put, Key: k, Val: v}) {
		t.Error(out)
	}
	d.runs("did 1 0 1 ok > told 1 ok", "do 1 0 put k > do 1 0 3 2 put k", "did 1 0 2 ok > told 1 ok")
}

// P18.1, P18.2: the errors of a Do, each ahead of all that come behind it.
func TestDoErrors(t *testing.T) {
	d := newDesk(t)
	d.begins(4)
	d.runs("do 2 0 get k > hello 2 0", "commit 4 > told 4 ok")
	d.does("3", 0, 5, 1)
	d.runs("commit 3 > prepare 3 0 5 1")
	long := strings.Repeat("k", api.MaxKey+1)
	wide := strings.Repeat("v", api.MaxVal+1)
	for _, x := range []struct {
		t        string
		node, op int
		k, val   string
		want     api.Errno
	}{
		{"4", -1, 0, "", "", api.ErrNone}, {"5", 0, msg.Get, "k", "", api.ErrNone}, {"1@0", 0, msg.Get, "k", "", api.ErrNone}, {"2:1", 0, msg.Get, long, "", api.ErrNone},
		{"2", -1, 0, "", "", api.ErrTurn}, {"2", 0, msg.Get, "k", "", api.ErrTurn}, {"2", 2, msg.Get, "k", "", api.ErrTurn}, {"3", 0, msg.Get, "k", "", api.ErrTurn}, {"3", 64, 9, long, "", api.ErrTurn},
		{"1", -1, 0, "", "", api.ErrArg}, {"1", 0, msg.Put, "", "v", api.ErrArg}, {"1", 64, 0, long, wide, api.ErrKey}, {"1", 0, msg.Put, long, "v", api.ErrKey},
		{"1", -1, msg.Get, "k", "", api.ErrArg}, {"1", api.MaxNodes, msg.Get, "k", "", api.ErrArg}, {"1", 1 << 62, msg.Put, "k", "v", api.ErrArg},
		{"1", 0, 0, "k", "", api.ErrArg}, {"1", 0, -1, "k", "", api.ErrArg}, {"1", 0, 4, "k", "", api.ErrArg}, {"1", 0, 4, "k", "v", api.ErrArg},
		{"1", 0, msg.Get, "k", "v", api.ErrArg}, {"1", 0, msg.Drop, "k", "v", api.ErrArg}, {"1", 0, msg.Put, "k", wide, api.ErrArg},
	} {
		d.refused(x.want, fmt.Sprint(x), func() api.Errno { return d.k.Do(tidOf(x.t), x.node, x.op, x.k, x.val) })
	}
	if key.Right(long) != api.ErrKey {
		t.Error("layer 2")
	}
	// None of those nodes takes part by that.
	d.runs("commit 1 > told 1 ok")
}

// P18.2: behind MaxN things that were done at a node there is no number more; at another one there is.
func TestDoMaxN(t *testing.T) {
	d := newDesk(t)
	d.begins(1)
	d.does("1", 2, 7, 1)
	did := msgOf("did 1 2 1 ok")
	for n := 2; n <= msg.MaxN; n++ {
		did.N = n
		if err := d.k.Do(did.Tid, 2, msg.Get, "k", ""); err != api.OK || d.k.Take(did) != api.OK || !d.k.Idle(did.Tid) {
			t.Fatal(n, err)
		}
		if n%1000 == 0 {
			d.k.Out()
			d.k.Told()
		}
	}
	d.news()
	d.refused(api.ErrArg, "one more", func() api.Errno { return d.k.Do(did.Tid, 2, msg.Get, "k", "") })
	d.does("1", 3, 7, 1)
	d.runs("commit 1 > prepare 1 2 7 1048576; prepare 1 3 7 1", "vote 1 2 ok >", "vote 1 3 ok > commit 1 2; commit 1 3; told 1 ok")
}

// P18.2: a Welcome is nothing of a node that isn't asked, where nothing is asked for, where the life is known, or of Life 0.
func TestWelcome(t *testing.T) {
	d := newDesk(t)
	d.begins(3)
	d.runs("welcome 1 2 7 >", "welcome 4 2 7 >", "welcome 1 2 0 >")
	d.runs("do 1 2 put k v > hello 1 2", "welcome 1 0 7 >", "welcome 1 1 7 >", "welcome 1 2 0 >", "welcome 2 2 7 >", "welcome 1 2 7 > do 1 2 7 1 put k v")
	d.runs("welcome 1 2 7 >", "welcome 1 2 8 >", "welcome 1 2 0 >", "did 1 2 1 ok > told 1 ok", "welcome 1 2 8 >")
	// Of another node that takes part, and isn't asked now.
	d.runs("do 1 0 get a > hello 1 0", "welcome 1 2 8 >", "welcome 1 0 1 > do 1 0 1 1 get a", "did 1 0 1 ok > told 1 ok", "do 1 2 get a > do 1 2 7 2 get a", "welcome 1 2 9 >", "welcome 1 0 9 >", "did 1 2 2 ok > told 1 ok")
	// While it is voted, and when it is over.
	d.runs("commit 1 > prepare 1 0 1 1; prepare 1 2 7 2", "welcome 1 2 9 >", "vote 1 0 ok >", "vote 1 2 ok > commit 1 0; commit 1 2; told 1 ok", "welcome 1 2 9 >")
	// One that came ahead of the Do isn't kept.
	d.runs("welcome 2 5 3 >", "do 2 5 get a > hello 2 5", "welcome 2 5 4 > do 2 5 4 1 get a")
	d.stands("2? 3", "1:0+2")
}

// P18.2: a Did is nothing with another number than the one that is expected, of another node, ahead of the life, or where nothing is asked for; whatever its Code.
func TestDid(t *testing.T) {
	d := newDesk(t)
	d.begins(2)
	d.does("1", 0, 5, 1)
	for _, code := range []string{"ok", "ok=v", "gone", "abort", "full"} {
		d.runs("did 1 0 1 "+code+" >", "did 1 0 2 "+code+" >", "did 1 0 0 "+code+" >", "did 3 0 1 "+code+" >", "did 2 0 1 "+code+" >")
	}
	d.stands("1 2", "")
	d.runs("do 1 2 get k > hello 1 2")
	for _, code := range []string{"ok", "gone"} {
		d.runs("did 1 2 1 "+code+" >", "did 1 2 0 "+code+" >", "did 1 0 2 "+code+" >", "did 1 1 1 "+code+" >")
	}
	d.stands("1? 2", "")
	d.runs("welcome 1 2 7 > do 1 2 7 1 get k")
	for _, code := range []string{"ok", "gone", "died"} {
		d.runs("did 1 2 0 "+code+" >", "did 1 2 2 "+code+" >", "did 1 0 2 "+code+" >", "did 1 3 1 "+code+" >", "did 2 2 1 "+code+" >", "did 1 2 1048576 "+code+" >")
	}
	d.stands("1? 2", "")
	d.runs("did 1 2 1 ok=w > told 1 ok=w", "did 1 2 1 ok=w >", "did 1 2 2 ok=w >")
	d.runs("do 1 2 put k x > do 1 2 7 2 put k x", "did 1 2 1 ok=w >", "did 1 2 3 ok >", "did 1 2 2 ok > told 1 ok")
	d.stands("1 2", "")
	d.runs("commit 1 > prepare 1 0 5 1; prepare 1 2 7 2", "did 1 2 3 gone >", "did 1 0 2 ok >")
}

// P18.2: a Did with another Code than OK: it is given up, with ErrAbort for ErrGone, else with that Code; an Abort goes to each node that takes part, in order.
func TestDidGivenUp(t *testing.T) {
	for code := api.ErrArg; code <= api.ErrSession; code++ {
		want := code
		if code == api.ErrGone {
			want = api.ErrAbort
		}
		d := newDesk(t)
		d.begins(2)
		d.does("1", 9, 5, 1)
		d.does("1", 0, 6, 1)
		d.does("1", 2, 7, 1)
		d.runs("do 1 0 get k > do 1 0 6 2 get k")
		m := msgOf("did 1 0 2 ok=v")
		m.Code = code
		d.oks(d.k.Take(m))
		is(t, fmt.Sprint(code), d.news(), "abort 1 0; abort 1 2; abort 1 9; told 1 "+codeText(want))
		d.stands("2", "")
		d.runs("did 1 0 2 ok >", "do 1 0 get k > !none", "commit 1 > !none", "abort 1 > !none", "ask 1 0 > abort 1 0")
		d.ticks("", "", "", "", "", "")
	}
	d := newDesk(t)
	d.begins(1)
	d.runs("do 1 2 put k v > hello 1 2", "welcome 1 2 7 > do 1 2 7 1 put k v", "did 1 2 1 died > abort 1 2; told 1 died")
	d.stands("", "")
}
