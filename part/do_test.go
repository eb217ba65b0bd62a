package part

import (
	"fmt"
	"strings"
	"testing"

	"dockmaster/api"
	"dockmaster/msg"
)

// P17.2: messages that aren't right, aren't for this node, aren't from that of their transaction, or are none of a part's: nothing goes out, nothing turns.
func TestTakeArg(t *testing.T) {
	d := newDesk(t)
	d.puts("a=1")
	d.takes("do 5.2 1 put b 1 > did 5.2 1 ok", "do 3.2 1 get b >")
	refused := func(m msg.Msg) {
		t.Helper()
		if err := d.p.Take(m); err != api.ErrArg {
			t.Error(m, "is answered", err)
		}
		is(t, fmt.Sprint(m), d.out(), "")
		d.stands("3.2 5.2", "b=5.2w<3.2r")
		d.has("a=1 b=1")
	}
	all := []string{"hello 5.2", "do 5.2 2 put c 1", "do 5.2 1 put b 1", "do 7.2 1 get a", "prepare 5.2 1", "commit 5.2", "commit 7.2", "abort 5.2", "abort 7.2"}
	for _, s := range all {
		for _, to := range []int{0, 2, 63, 64, -1} {
			m := d.msgOf(s)
			m.To = to
			refused(m)
		}
		for _, from := range []int{0, 1, 3, 63, 64, -1} {
			m := d.msgOf(s)
			m.From = from
			refused(m)
		}
		for _, turn := range []func(*msg.Msg){
			func(m *msg.Msg) { m.Tid.Num = api.MaxTid + 1 },
			func(m *msg.Msg) { m.Tid.Node, m.From = 64, 64 },
			func(m *msg.Msg) { m.Tid.Node, m.From = -1, -1 },
			func(m *msg.Msg) { m.N = -1 },
			func(m *msg.Msg) { m.N = msg.MaxN + 1 },
			func(m *msg.Msg) { m.Life = 1<<40 + 1 },
			func(m *msg.Msg) { m.Has = true },
			func(m *msg.Msg) { m.Code = api.ErrGone },
			func(m *msg.Msg) { m.Op = 4 },
			func(m *msg.Msg) { m.Key = strings.Repeat("k", 25) },
			func(m *msg.Msg) { m.Val = strings.Repeat("v", 49) },
			func(m *msg.Msg) { m.Kind = 0 },
			func(m *msg.Msg) { m.Kind = -m.Kind },
			func(m *msg.Msg) { m.Kind = msg.Ask + 1 },
		} {
			m := d.msgOf(s)
			turn(&m)
			refused(m)
		}
	}
	for _, k := range []int{msg.Welcome, msg.Did, msg.Vote, msg.Ack, msg.Ask} {
		for _, s := range []string{"5.2", "7.2"} {
			m := msg.Msg{Kind: k, From: 2, To: me, Tid: tidOf(s)}
			if !m.Right() {
				t.Fatal(m)
			}
			refused(m)
		}
	}
	refused(msg.Msg{Kind: msg.Do, From: 2, To: me, Tid: tidOf("7.2"), N: 1, Life: d.s.Life(), Op: msg.Get})
	// The same ones are taken, as they are to be.
	d.takes("do 5.2 1 put b 1 > did 5.2 1 ok", "abort 7.2 >", "do 5.2 2 put c 1 > did 5.2 2 ok")
}

// P17.2: Hello of one that isn't known, that is, that is prepared, that is over; in another life its number.
func TestHello(t *testing.T) {
	d := newDesk(t)
	d.takes("hello 5.2 > welcome 5.2 1")
	d.stands("", "")
	d.takes("do 5.2 1 put a 1 > did 5.2 1 ok", "hello 5.2 > welcome 5.2 1", "prepare 5.2 1 > vote 5.2 ok", "hello 5.2 > welcome 5.2 1", "hello 5.2 > welcome 5.2 1")
	d.stands("5.2!", "a=5.2w")
	d.takes("abort 7 >", "hello 7 > welcome 7 1")
	d.lose()
	d.takes("hello 5.2 > welcome 5.2 2", "hello 0.1 > welcome 0.1 2", "hello 1099511627776.63 > welcome 1099511627776.63 2")
	d.lose()
	d.takes("hello 5.2 > welcome 5.2 3")
	d.stands("5.2!", "a=5.2w")
}

// P17.2: each Op, of a key that is there, and of one that isn't; what was put and taken away is seen by who did it.
func TestDoOps(t *testing.T) {
	d := newDesk(t)
	d.puts("a=1", "b=2")
	d.takes(
		"do 5 1 get a > did 5 1 ok=1",
		"do 5 2 get c > did 5 2 ok",
		"do 5 3 put c 3 > did 5 3 ok",
		"do 5 4 get c > did 5 4 ok=3",
		"do 5 5 put a > did 5 5 ok",
		"do 5 6 get a > did 5 6 ok=",
		"do 5 7 drop b > did 5 7 ok",
		"do 5 8 get b > did 5 8 ok",
		"do 5 9 drop d > did 5 9 ok",
		"do 5 10 put b 4 > did 5 10 ok",
	)
	d.stands("5", "a=5w b=5w c=5w d=5w")
	d.has("a= b=4 c=3")
	is(t, "open in the store", d.storeOpens(), "5")
	d.takes("do 7 1 get e > did 7 1 ok")
	d.stands("5 7", "a=5w b=5w c=5w d=5w e=7r")
	is(t, "open in the store", d.storeOpens(), "5")
}

// P17.2: keys and values at their bounds, and transactions.
func TestDoBounds(t *testing.T) {
	d := newDesk(t)
	k, v := strings.Repeat("k", api.MaxKey), strings.Repeat("v", api.MaxVal)
	big := "1099511627776.63"
	d.takes("do "+big+" 1 put "+k+" "+v+" > did "+big+" 1 ok", "do "+big+" 2 get "+k+" > did "+big+" 2 ok="+v, "do 0 1 get a > did 0 1 ok", "do 0.1 1 get a > did 0.1 1 ok")
	is(t, "Open", d.openText(), "0 0.1 "+big)
}

// P17.2, example 1: the first number of one that isn't known lets it be known, any other one is gone.
func TestDoUnknown(t *testing.T) {
	d := newDesk(t)
	for _, n := range []int{0, 2, 3, msg.MaxN} {
		d.takes(fmt.Sprintf("do 5.2 %d put a 1 > did 5.2 %d gone", n, n))
	}
	d.stands("", "")
	d.has("")
	d.takes("do 5.2 1 put a 1 > did 5.2 1 ok")
	d.stands("5.2", "a=5.2w")
	// Another node's transaction of that number is another one.
	d.takes("do 5 2 put b 1 > did 5 2 gone", "do 5.3 2 put b 1 > did 5.3 2 gone")
	d.stands("5.2", "a=5.2w")
}

// P17.2: of one that is over each number is gone: by Abort, by Commit, as it died.
func TestDoOver(t *testing.T) {
	d := newDesk(t)
	d.takes(
		"do 1 1 put a 1 > did 1 1 ok", "abort 1 >",
		"do 2 1 put a 2 > did 2 1 ok", "prepare 2 1 > vote 2 ok", "commit 2 > ack 2",
		"do 3 1 put a 3 > did 3 1 ok", "do 4 1 put a 3 > did 4 1 died",
		"abort 5 >",
	)
	for _, s := range []string{"1", "2", "4", "5"} {
		for n := range 4 {
			d.takes(fmt.Sprintf("do %s %d get b > did %s %d gone", s, n, s, n))
		}
	}
	d.stands("3", "a=3w")
	// In another life of the node they are none that are known.
	d.lose()
	d.takes("do 1 1 get b > did 1 1 ok", "do 2 1 get a > did 2 1 ok=2", "do 4 2 get b > did 4 2 gone", "do 4 1 get b > did 4 1 ok", "do 5 1 get b > did 5 1 ok")
}

// P17.2: with another Life than the store's each number is gone, of one that is known too; that stays as it is.
func TestDoLife(t *testing.T) {
	d := newDesk(t)
	d.lose()
	for _, life := range []int{0, 1, 3, 1 << 40} {
		for n := range 3 {
			d.takes(fmt.Sprintf("do 5 %d put a 1 @%d > did 5 %d gone", n, life, n))
		}
	}
	d.stands("", "")
	d.takes("do 5 1 put a 1 @2 > did 5 1 ok", "do 3 1 put b 1 > did 3 1 ok", "do 3 2 put a 2 >")
	for _, life := range []int{0, 1, 3, 1 << 40} {
		for n := range 4 {
			d.takes(fmt.Sprintf("do 5 %d put c 1 @%d > did 5 %d gone", n, life, n), fmt.Sprintf("do 3 %d put c 1 @%d > did 3 %d gone", n, life, n))
		}
	}
	d.stands("3 5", "a=5w<3w b=3w")
	d.has("a=1 b=1")
	d.takes("do 5 2 get a > did 5 2 ok=1")
}

// P17.2: the last number again is answered again, and nothing is done twice; the one behind it is done; any other one is nothing.
func TestDoNumbers(t *testing.T) {
	d := newDesk(t)
	d.puts("a=1")
	d.takes("do 5 1 get a > did 5 1 ok=1", "do 5 1 get a > did 5 1 ok=1", "do 5 1 get a > did 5 1 ok=1")
	d.takes("do 5 2 put a 2 > did 5 2 ok", "do 5 2 put a 2 > did 5 2 ok", "do 5 2 put a 2 > did 5 2 ok")
	is(t, "updates", fmt.Sprint(d.s.Opens()[0].Count), "1")
	// The number counts alone: what else it says is nothing.
	d.takes("do 5 2 put b 9 > did 5 2 ok", "do 5 2 get c > did 5 2 ok")
	d.stands("5", "a=5w")
	d.has("a=2")
	for _, n := range []int{0, 1, 4, 5, msg.MaxN} {
		d.takes(fmt.Sprintf("do 5 %d put b 9 >", n))
	}
	d.stands("5", "a=5w")
	d.has("a=2")
	d.takes("do 5 3 get a > did 5 3 ok=2", "do 5 1 get a >", "do 5 2 put a 2 >", "do 5 3 get a > did 5 3 ok=2", "do 5 4 drop a > did 5 4 ok", "do 5 4 drop a > did 5 4 ok", "do 5 3 get a >")
	d.has("")
	is(t, "updates", fmt.Sprint(d.s.Opens()[0].Count), "2")
}

// P17.2: while something of it waits no number is anything, that of what waits neither; nor is it done twice behind that.
func TestDoWhileWaiting(t *testing.T) {
	d := newDesk(t)
	d.takes("do 5 1 put a 1 > did 5 1 ok", "do 3 1 put b 1 > did 3 1 ok", "do 3 2 put a 2 >")
	for n := range 5 {
		d.takes(fmt.Sprintf("do 3 %d put c 3 >", n))
	}
	d.takes("do 3 2 put a 2 >", "do 3 2 get b >")
	d.stands("3 5", "a=5w<3w b=3w")
	d.has("a=1 b=1")
	d.takes("abort 5 > did 3 2 ok", "do 3 2 put a 2 > did 3 2 ok", "do 3 1 put b 1 >", "do 3 3 get a > did 3 3 ok=2")
	d.stands("3", "a=3w b=3w")
	d.has("a=2 b=1")

	// So it is of the first number, where nothing was done yet.
	d.takes("do 2 1 get b >", "do 2 1 get b >", "do 2 0 get b >", "do 2 2 get c >")
	d.stands("2 3", "a=3w b=3w<2r")
	d.takes("abort 3 > did 2 1 ok")
}

// P17.2: one that is prepared does nothing any more, whatever Life and number it has.
func TestDoPrepared(t *testing.T) {
	d := newDesk(t)
	d.takes("do 5 1 put a 1 > did 5 1 ok", "prepare 5 1 > vote 5 ok")
	for n := range 4 {
		d.takes(fmt.Sprintf("do 5 %d put b 1 >", n), fmt.Sprintf("do 5 %d put b 1 @7 >", n))
	}
	d.stands("5!", "a=5w")
	d.has("a=1")
}

// P17.2: which locks are against each other: a Get reads, a Put and a Drop write.
func TestDoLocks(t *testing.T) {
	for _, c := range []struct{ first, second, elder, younger string }{
		{"get", "get", "did 3 1 ok", "did 7 1 ok"},
		{"get", "put", "", "did 7 1 died"},
		{"get", "drop", "", "did 7 1 died"},
		{"put", "get", "", "did 7 1 died"},
		{"put", "put", "", "did 7 1 died"},
		{"put", "drop", "", "did 7 1 died"},
		{"drop", "get", "", "did 7 1 died"},
		{"drop", "put", "", "did 7 1 died"},
		{"drop", "drop", "", "did 7 1 died"},
	} {
		d := newDesk(t)
		d.takes("do 5 1 "+c.first+" a > did 5 1 ok", "do 7 1 "+c.second+" a > "+c.younger, "do 3 1 "+c.second+" a > "+c.elder)
		if c.younger == "did 7 1 ok" {
			d.stands("3 5 7", "a=3r+5r+7r")
			continue
		}
		is(t, fmt.Sprint(c), d.openText(), "3 5")
		d.takes("abort 5 > did 3 1 ok")
		is(t, fmt.Sprint(c), d.openText(), "3")
	}
}

// P17.2: what a transaction has to write it may read; what it has to read it may write, if no other one has it.
func TestDoOwnLocks(t *testing.T) {
	d := newDesk(t)
	d.puts("a=1")
	d.takes("do 5 1 get a > did 5 1 ok=1", "do 5 2 get a > did 5 2 ok=1", "do 5 3 put a 2 > did 5 3 ok", "do 5 4 get a > did 5 4 ok=2")
	d.stands("5", "a=5w")
	d.takes("abort 5 >", "do 6 1 get a > did 6 1 ok=1", "do 7 1 get a > did 7 1 ok=1", "do 6 2 put a 3 >", "do 7 2 put a 3 > did 7 2 died; did 6 2 ok")
	d.stands("6", "a=6w")
	d.has("a=3")
}

// P17.2: one that dies is undone: what it did isn't there, its locks are let go, and who waited for them goes on.
func TestDies(t *testing.T) {
	d := newDesk(t)
	d.puts("a=1", "b=2")
	d.takes("do 3 1 put a x > did 3 1 ok", "do 7 1 put b y > did 7 1 ok", "do 7 2 put c y > did 7 2 ok", "do 5 1 get b >", "do 4 1 get c >")
	d.stands("3 4 5 7", "a=3w b=7w<5r c=7w<4r")
	d.takes("do 7 3 get a > did 7 3 died; did 5 1 ok=2; did 4 1 ok")
	d.stands("3 4 5", "a=3w b=5r c=4r")
	d.has("a=x b=2")
	is(t, "open in the store", d.storeOpens(), "3")
	d.takes("do 7 3 get a > did 7 3 gone", "do 7 4 get b > did 7 4 gone", "prepare 7 2 > vote 7 gone", "commit 7 > ack 7", "abort 7 >")
	d.stands("3 4 5", "a=3w b=5r c=4r")
}

// P17.2: with an error of the store it fails, and is undone.
func TestStoreFull(t *testing.T) {
	d := tight(t)
	d.takes("do 5 1 get b > did 5 1 ok", "do 5 2 put a 1 > did 5 2 ok", "do 3 1 get b > did 3 1 ok", "do 3 2 get a >")
	d.takes("do 7 1 get b > did 7 1 ok", "do 7 2 put c 1 > did 7 2 full")
	d.stands("3 5", "a=5w<3r b=3r+5r")
	d.takes("do 7 1 get b > did 7 1 gone", "do 8 1 drop d > did 8 1 full")
	d.stands("3 5", "a=5w<3r b=3r+5r")
	d.has("a=1")
	d.takes("do 5 3 put d 1 > did 5 3 full; did 3 2 ok")
	d.stands("3", "a=3r b=3r")
	d.has("")
	is(t, "open in the store", d.storeOpens(), "")
	d.takes("do 3 3 put b 1 > did 3 3 ok", "prepare 3 3 > vote 3 ok", "commit 3 > ack 3")
	d.has("b=1")
}

// P17.2: the store's ErrMany, as more transactions than it has may turn keys.
func TestStoreMany(t *testing.T) {
	d := newDesk(t)
	for i := range 200 {
		d.oks(d.s.Prepare(api.Tid{Num: uint64(1000 + i), Node: 9}, nil))
	}
	d.renew()
	d.takes("do 5 1 get a > did 5 1 ok", "do 5 2 put a 1 > did 5 2 many", "do 5 3 get a > did 5 3 gone", "commit 1000.9 > ack 1000.9", "do 6 1 put a 1 > did 6 1 ok")
}

// P17.2: what waits is done when its lock is let go, in the order in which the locks are given: key by key, and of one key as they wait.
func TestFreedInOrder(t *testing.T) {
	d := newDesk(t)
	d.puts("a=1", "b=2", "c=3")
	d.takes(
		"do 9 1 put c z > did 9 1 ok", "do 9 2 drop a > did 9 2 ok", "do 9 3 put b y > did 9 3 ok",
		"do 4 1 get c >", "do 3 1 get b >", "do 6 1 get a >", "do 5 1 get b >", "do 2 1 get a >", "do 1 1 put b w >",
	)
	d.stands("1 2 3 4 5 6 9", "a=9w<6r+2r b=9w<3r+5r+1w c=9w<4r")
	d.takes("abort 9 > did 6 1 ok=1; did 2 1 ok=1; did 3 1 ok=2; did 5 1 ok=2; did 4 1 ok=3")
	d.stands("1 2 3 4 5 6", "a=2r+6r b=3r+5r<1w c=4r")
	d.takes("abort 3 >", "abort 5 > did 1 1 ok")
	d.has("a=1 b=w c=3")
}

// P17.2: what was done when a lock was let go may be asked for again, and what comes behind it goes on.
func TestFreedGoesOn(t *testing.T) {
	d := newDesk(t)
	d.takes("do 9 1 put a z > did 9 1 ok", "do 4 1 put b 1 > did 4 1 ok", "do 4 2 get a >", "prepare 9 1 > vote 9 ok", "commit 9 > did 4 2 ok=z; ack 9")
	d.takes("do 4 2 get a > did 4 2 ok=z", "do 4 1 get a >", "do 4 3 put a y > did 4 3 ok", "prepare 4 3 > vote 4 ok", "commit 4 > ack 4")
	d.has("a=y b=1")
}

// P17.2: of several that wait for locks of one that goes, one fails, and those that waited for its locks go on: behind all those that had theirs ahead of that.
func TestFreedThroughSeveral(t *testing.T) {
	d := tight(t)
	d.takes(
		"do 90 1 put s 1 > did 90 1 ok",
		"do 80 1 get a > did 80 1 ok", "do 80 2 get b > did 80 2 ok", "do 80 3 get c > did 80 3 ok",
		"do 70 1 get d > did 70 1 ok", "do 70 2 put a 1 >",
		"do 60 1 get e > did 60 1 ok", "do 60 2 put b 1 >",
		"do 50 1 put d 1 >",
		"do 40 1 get c > did 40 1 ok", "do 40 2 put e 1 >",
		"do 30 1 get f > did 30 1 ok", "do 30 2 put c 1 >",
		"do 20 1 put f 1 >",
		"do 10 1 get g > did 10 1 ok", "do 10 2 put d 1 >",
	)
	d.stands("10 20 30 40 50 60 70 80 90", "a=80r<70w b=80r<60w c=40r+80r<30w d=70r<50w+10w e=60r<40w f=30r<20w g=10r s=90w")
	// As 90 isn't at its end, no other one can turn a key.
	d.takes("abort 80 > did 70 2 full; did 60 2 full; did 50 1 full; did 40 2 full; did 10 2 full; did 30 2 full; did 20 1 full")
	d.stands("90", "s=90w")
	d.has("s=1")
}

// P17.2: so it is where the one that goes has failed itself, where it died, and where it was committed.
func TestFreedByAll(t *testing.T) {
	for _, c := range []struct{ last, first, behind string }{
		{"abort 80", "", ""},
		{"do 80 3 put a 1", "did 80 3 full; ", ""},
		{"do 80 3 put t 1", "did 80 3 died; ", ""},
		{"prepare 80 1", "vote 80 gone; ", ""},
		{"prepare 80 2 @7", "vote 80 gone; ", ""},
		{"commit 80", "", "; ack 80"},
	} {
		d := tight(t)
		d.takes("do 75 1 put s 1 > did 75 1 ok", "do 75 2 get t > did 75 2 ok", "do 80 1 get a > did 80 1 ok", "do 80 2 get b > did 80 2 ok")
		if strings.HasPrefix(c.last, "commit") {
			d.takes("prepare 80 2 > vote 80 ok")
		}
		wait := "do 70 2 put a 1 >"
		if strings.HasSuffix(c.last, "put a 1") {
			// What it has and asks to write itself it doesn't let another one wait for.
			wait = "do 70 2 put b 1 >"
		}
		d.takes("do 70 1 get c > did 70 1 ok", wait, "do 60 1 put c 1 >", "do 50 1 put b 1 >")
		d.takes(c.last + " > " + c.first + "did 70 2 full; did 50 1 full; did 60 1 full" + c.behind)
		d.stands("75", "s=75w t=75r")
	}
}
