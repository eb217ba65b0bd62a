package coord

import (
	"fmt"
	"slices"
	"testing"

	"dockmaster/api"
	"dockmaster/msg"
	"dockmaster/rec"
	"dockmaster/store"
)

// P18.1, P18.3: Commit and Abort of one that isn't under way, of one of which something is asked for, and of one that is voted.
func TestEndErrors(t *testing.T) {
	d := newDesk(t)
	d.begins(4)
	d.runs("do 1 2 get k > hello 1 2", "do 2 2 get k > hello 2 2", "welcome 2 2 7 > do 2 2 7 1 get k", "commit 4 > told 4 ok")
	d.does("3", 2, 7, 1)
	d.runs("commit 3 > prepare 3 2 7 1")
	d.decides("9", 2)
	for row, want := range map[string]api.Errno{"1": api.ErrTurn, "2": api.ErrTurn, "3": api.ErrTurn, "4": api.ErrNone, "5": api.ErrNone, "9": api.ErrNone, "1@0": api.ErrNone, "0:1": api.ErrNone, "1@99": api.ErrNone} {
		for _, what := range []string{"commit ", "abort "} {
			d.refused(want, what+row, func() api.Errno { return d.call(what + row) })
		}
	}
}

// P18.3: a Commit without nodes is told OK at once: nothing goes out, and nothing is decided.
func TestCommitNone(t *testing.T) {
	d := newDesk(t)
	d.begins(2)
	steps := d.d.Steps()
	d.runs("commit 1 > told 1 ok", "commit 1 > !none", "abort 1 > !none", "do 1 2 get k > !none")
	d.stands("2", "")
	if d.d.Steps() != steps {
		t.Error("the disk was turned")
	}
	d.runs("ask 1 2 > abort 1 2")
	d.ticks("", "", "", "")
}

// P18.3: with one node: it is asked to prepare, with its Life and how much was done; when it can it is decided, told, and the node is told.
func TestCommitOne(t *testing.T) {
	d := newDesk(t)
	d.begins(2)
	d.does("1", 2, 7, 1)
	d.does("1", 2, 7, 2)
	d.runs("commit 1 > prepare 1 2 7 2")
	d.stands("1? 2", "")
	d.runs("vote 1 2 ok > commit 1 2; told 1 ok")
	d.stands("2", "1:2")
	d.runs("vote 1 2 ok >", "vote 1 2 gone >", "commit 1 > !none", "abort 1 > !none", "do 1 2 get k > !none")
	d.stands("2", "1:2")
	d.runs("ack 1 2 >")
	d.stands("2", "")
}

// P18.3: with several: each is asked, in the nodes' order; what is decided is so when all can, in whatever order they say so, and however often.
func TestCommitSeveral(t *testing.T) {
	for i, order := range [][]int{{0, 2, 9}, {9, 0, 2}, {2, 9, 0}, {0, 9, 2}} {
		d := newDesk(t)
		d.begins(1)
		d.does("1", 9, 5, 1)
		d.does("1", 0, 6, 1)
		d.does("1", 2, 7, 1)
		d.does("1", 2, 7, 2)
		d.runs("commit 1 > prepare 1 0 6 1; prepare 1 2 7 2; prepare 1 9 5 1")
		for _, n := range order[:2] {
			for range 1 + i {
				d.runs(fmt.Sprintf("vote 1 %d ok >", n))
			}
			d.stands("1?", "")
		}
		steps := d.d.Steps()
		d.runs(fmt.Sprintf("vote 1 %d ok > commit 1 0; commit 1 2; commit 1 9; told 1 ok", order[2]))
		if d.d.Steps() == steps || d.d.Waits() != 0 {
			t.Error("it isn't safe")
		}
		d.stands("", "1:0+2+9")
	}
}

// P18.3: a Vote is nothing of one that isn't voted, of a node that doesn't take part, of one that isn't under way; whatever its Code.
func TestVoteNothing(t *testing.T) {
	d := newDesk(t)
	d.begins(3)
	d.does("1", 2, 7, 1)
	d.does("2", 0, 7, 1)
	d.runs("do 2 2 get k > hello 2 2")
	for _, code := range []string{"ok", "gone", "full"} {
		d.runs("vote 1 2 "+code+" >", "vote 1 0 "+code+" >", "vote 2 0 "+code+" >", "vote 2 2 "+code+" >", "vote 3 2 "+code+" >", "vote 4 2 "+code+" >")
	}
	d.stands("1 2? 3", "")
	// What was said ahead of the Commit isn't kept.
	d.runs("commit 1 > prepare 1 2 7 1")
	for _, code := range []string{"ok", "gone", "full"} {
		d.runs("vote 1 0 "+code+" >", "vote 1 63 "+code+" >", "vote 1 1 "+code+" >", "vote 2 2 "+code+" >")
	}
	d.stands("1? 2? 3", "")
	d.runs("vote 1 2 ok > commit 1 2; told 1 ok")
}

// P18.3: a node that can't: it is given up, with ErrAbort for ErrGone, else with the Code; also one that said ahead of that that it can.
func TestVoteGivenUp(t *testing.T) {
	for code := api.ErrArg; code <= api.ErrSession; code++ {
		want := code
		if code == api.ErrGone {
			want = api.ErrAbort
		}
		for _, first := range []int{0, 2} {
			d := newDesk(t)
			d.begins(1)
			d.does("1", 2, 5, 1)
			d.does("1", 0, 6, 1)
			d.runs("commit 1 > prepare 1 0 6 1; prepare 1 2 5 1", fmt.Sprintf("vote 1 %d ok >", first))
			m := msgOf("vote 1 2 ok")
			m.Code = code
			d.oks(d.k.Take(m))
			is(t, fmt.Sprint(code), d.news(), "abort 1 0; abort 1 2; told 1 "+codeText(want))
			d.stands("", "")
			d.runs("vote 1 0 ok >", "vote 1 2 ok >", "commit 1 > !none", "ask 1 2 > abort 1 2")
			d.ticks("", "", "", "", "", "")
		}
	}
}

// P18.3: Abort: it is given up with OK, with nodes and without.
func TestAbort(t *testing.T) {
	d := newDesk(t)
	d.begins(3)
	d.does("2", 9, 5, 1)
	d.does("2", 0, 6, 1)
	d.runs("abort 1 > told 1 ok", "abort 2 > abort 2 0; abort 2 9; told 2 ok", "abort 1 > !none", "abort 2 > !none")
	d.stands("3", "")
	d.runs("ask 2 0 > abort 2 0", "did 2 0 2 ok >", "welcome 2 0 4 >", "vote 2 0 ok >")
	d.ticks("", "", "", "", "")
}

// voted lets a transaction have the vote of node 0, and miss that of node 2.
func (d *desk) voted(t string) {
	d.t.Helper()
	d.does(t, 2, 7, 1)
	d.does(t, 0, 6, 1)
	d.runs("commit "+t+" > prepare "+t+" 0 6 1; prepare "+t+" 2 7 1", "vote "+t+" 0 ok >")
}

// P18.3: a store that can't decide, as it is full, as too many are decided, as it is decided already: given up with its error.
func TestDecideErrors(t *testing.T) {
	d := deskOf(t, store.Conf{Log: 100, Pages: 100, Room: 4})
	d.decides("9", 3)
	d.begins(1)
	d.voted("1")
	// From what may have to be undone on the log is needed.
	d.oks(d.s.Put(tidOf("8"), "a", "1"))
	for err := api.OK; err == api.OK; {
		err = d.s.Decide(api.Tid{Num: uint64(len(d.s.Dones())), Node: 5}, []int{3})
	}
	before := d.donesText()
	d.runs("vote 1 2 ok > abort 1 0; abort 1 2; told 1 full")
	d.stands("", before)

	d = newDesk(t)
	for n := range rec.MaxOpen {
		d.oks(d.s.Decide(api.Tid{Num: uint64(n), Node: 5}, []int{3}))
	}
	d.begins(2)
	d.voted("1")
	d.voted("2")
	before = d.donesText()
	d.runs("vote 1 2 ok > abort 1 0; abort 1 2; told 1 many")
	d.stands("2?", before)
	d.oks(d.s.Know(api.Tid{Node: 5}, 3))
	d.runs("vote 2 2 ok > commit 2 0; commit 2 2; told 2 ok")

	d = newDesk(t)
	d.decides("1", 8)
	d.renew()
	d.begins(1)
	d.voted("1")
	d.runs("vote 1 2 ok > abort 1 0; abort 1 2; told 1 turn")
	d.stands("", "1:8")
}

// P18.4: an Ack: the store knows it of that node; of one that knew already, that needn't know, of one that isn't decided, or is under way, it is nothing; behind the last one it is decided no more.
func TestAck(t *testing.T) {
	d := newDesk(t)
	d.begins(3)
	d.voted("1")
	d.voted("2")
	d.runs("vote 1 2 ok > commit 1 0; commit 1 2; told 1 ok", "ack 2 0 >", "ack 2 2 >", "ack 3 0 >", "ack 4 0 >")
	d.stands("2? 3", "1:0+2")
	d.runs("ack 1 2 >", "ack 1 2 >", "ack 1 9 >", "ack 1 1 >")
	d.stands("2? 3", "1:0")
	d.runs("ack 1 0 >")
	d.stands("2? 3", "")
	d.runs("ack 1 0 >", "ack 1 2 >")
	d.ticks("", "", "prepare 2 2 7 1", "")
}

// P18.4: an Ask of one under way is nothing, of one that is decided a Commit to who asked, of one that isn't known an Abort.
func TestAsk(t *testing.T) {
	d := newDesk(t)
	d.begins(4)
	d.voted("1")
	d.runs("vote 1 2 ok > commit 1 0; commit 1 2; told 1 ok")
	d.does("2", 2, 7, 1)
	d.runs("commit 2 > prepare 2 2 7 1", "do 3 2 get k > hello 3 2")
	d.runs("ask 2 2 >", "ask 3 2 >", "ask 4 2 >", "ask 4 0 >")
	d.runs("ask 1 2 > commit 1 2", "ask 1 2 > commit 1 2", "ask 1 0 > commit 1 0", "ask 1 9 > commit 1 9", "ask 5 2 > abort 5 2", "ask 5 1 > abort 5 1", "ask 2:1 63 > abort 2:1 63", "ask 0:0 2 > abort 0:0 2")
	d.runs("ack 1 2 >", "ask 1 2 > commit 1 2", "ack 1 0 >", "ask 1 0 > abort 1 0")
	d.stands("2? 3? 4", "")
	d.runs("vote 2 2 ok > commit 2 2; told 2 ok")
	d.lose()
	d.stands("", "2:2")
	d.runs("ask 2 2 > commit 2 2", "ask 3 2 > abort 3 2", "ask 4 2 > abort 4 2")
}

// P18.4: of one that is decided, and that all know, where the store has no room to forget it, a Commit goes to who asks still.
func TestAskKnownToAll(t *testing.T) {
	d := newDesk(t)
	d.decides("5")
	d.runs("ask 5 2 > commit 5 2")
	d.stands("", "5:")
}

// P18.4: what isn't right, isn't for this node, isn't of its transaction, or is none of a coordinator's: ErrArg, and nothing goes out or turns.
func TestTakeArg(t *testing.T) {
	d := newDesk(t)
	d.begins(3)
	d.runs("do 1 2 put k v > hello 1 2")
	d.does("2", 2, 7, 1)
	d.runs("commit 2 > prepare 2 2 7 1", "do 3 2 put k v > hello 3 2", "welcome 3 2 7 > do 3 2 7 1 put k v")
	d.decides("9", 2)
	good := []msg.Msg{msgOf("welcome 1 2 7"), msgOf("did 3 2 1 ok=v"), msgOf("vote 2 2 ok"), msgOf("ack 9 2"), msgOf("ask 8 2")}
	for _, m := range good {
		for i, turn := range []func(m *msg.Msg){
			func(m *msg.Msg) { m.To = 0 },
			func(m *msg.Msg) { m.To = 2 },
			func(m *msg.Msg) { m.To = -1 },
			func(m *msg.Msg) { m.Tid.Node = 2 },
			func(m *msg.Msg) { m.Tid.Node = 0 },
			func(m *msg.Msg) { m.To, m.Tid.Node = 2, 2 },
			func(m *msg.Msg) { m.From = api.MaxNodes },
			func(m *msg.Msg) { m.From = -1 },
			func(m *msg.Msg) { m.Tid.Num = api.MaxTid + 1 },
			func(m *msg.Msg) { m.Key = "k" },
			func(m *msg.Msg) { m.Op = msg.Get },
			func(m *msg.Msg) { m.Code = api.ErrSession + 1 },
			func(m *msg.Msg) { m.Life = 1<<40 + 1 },
			func(m *msg.Msg) { m.N = -1 },
			func(m *msg.Msg) { m.Kind = 0 },
			func(m *msg.Msg) { m.Kind = msg.Ask + 1 },
		} {
			bad := m
			turn(&bad)
			d.refused(api.ErrArg, fmt.Sprint(i, m), func() api.Errno { return d.k.Take(bad) })
		}
	}
	for _, kind := range []int{msg.Hello, msg.Do, msg.Prepare, msg.Commit, msg.Abort} {
		for _, s := range []string{"1", "2", "3", "9"} {
			m := msg.Msg{Kind: kind, From: 2, To: me, Tid: tidOf(s)}
			if kind == msg.Do {
				m.Op, m.Key = msg.Get, "k"
			}
			if !m.Right() {
				t.Error(m)
			}
			d.refused(api.ErrArg, fmt.Sprint(m), func() api.Errno { return d.k.Take(m) })
		}
	}
	var got []string
	for _, m := range good {
		d.oks(d.k.Take(m))
		got = append(got, d.news())
	}
	if want := []string{"do 1 2 7 1 put k v", "told 3 ok=v", "commit 2 2; told 2 ok", "", "abort 8 2"}; !slices.Equal(got, want) {
		t.Error(got)
	}
	d.stands("1? 3", "2:2")
}

// P18.5: Open and Idle at each step of transactions' ways.
func TestOpen(t *testing.T) {
	d := newDesk(t)
	for _, x := range []struct{ call, open string }{
		{"begin", "1"}, {"begin", "1 2"}, {"begin", "1 2 3"}, {"begin", "1 2 3 4"},
		{"do 3 2 get k", "1 2 3? 4"}, {"welcome 3 2 7", "1 2 3? 4"}, {"did 3 2 1 ok", "1 2 3 4"}, {"commit 3", "1 2 3? 4"}, {"do 2 0 get k", "1 2? 3? 4"}, {"abort 4", "1 2? 3?"},
		{"vote 3 2 ok", "1 2?"}, {"commit 1", "2?"}, {"welcome 2 0 4", "2?"}, {"begin", "2? 5"}, {"did 2 0 1 gone", "5"}, {"do 5 0 get k", "5?"}, {"ack 3 2", "5?"},
	} {
		d.oks(d.call(x.call))
		is(t, x.call, d.openText(), x.open)
		for _, s := range []string{"0:1", "6", "9", "5@0", "2:5"} {
			if d.k.Idle(tidOf(s)) {
				t.Error(s, "is idle")
			}
		}
	}
	open := d.k.Open()
	open[0] = api.Tid{}
	d.stands("5?", "")
}
