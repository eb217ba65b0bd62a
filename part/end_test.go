package part

import (
	"fmt"
	"testing"

	"dockmaster/msg"
	"dockmaster/rec"
)

// P17.3: Prepare of one that is known, with as many as were done: it stays, with all its locks; again it is answered the same.
func TestPrepare(t *testing.T) {
	d := newDesk(t)
	d.takes("do 5.2 1 put a 1 > did 5.2 1 ok", "do 5.2 2 get b > did 5.2 2 ok", "do 3 1 get a >", "prepare 5.2 2 > vote 5.2 ok")
	d.stands("3 5.2!", "a=5.2w<3r b=5.2r")
	is(t, "open in the store", d.storeOpens(), "5.2!b")
	for _, s := range []string{"2", "2", "0", "1", "3", fmt.Sprint(msg.MaxN), "2 @0", "1 @7"} {
		d.takes("prepare 5.2 " + s + " > vote 5.2 ok")
	}
	d.stands("3 5.2!", "a=5.2w<3r b=5.2r")
	d.lose()
	d.stands("5.2!", "a=5.2w b=5.2r")
	d.takes("prepare 5.2 2 > vote 5.2 ok", "prepare 5.2 0 @1 > vote 5.2 ok")
}

// P17.3: Prepare of one that isn't known, and of one that is over: it is gone, and stays what it was.
func TestPrepareGone(t *testing.T) {
	d := newDesk(t)
	for _, s := range []string{"0", "1", "0 @7"} {
		d.takes("prepare 5.2 " + s + " > vote 5.2 gone")
	}
	d.stands("", "")
	// It isn't over by that.
	d.takes("do 5.2 1 put a 1 > did 5.2 1 ok", "abort 5.2 >", "prepare 5.2 1 > vote 5.2 gone", "prepare 5.2 0 > vote 5.2 gone")
	d.takes("do 6 1 put a 1 > did 6 1 ok", "prepare 6 1 > vote 6 ok", "commit 6 > ack 6", "prepare 6 1 > vote 6 gone")
	d.has("a=1")
	is(t, "open in the store", d.storeOpens(), "")
}

// P17.3: with another Life, with something that waits, with another number than was done: it is gone, and undone; who waited for its locks goes on behind the Vote.
func TestPrepareUndone(t *testing.T) {
	for _, s := range []string{"2 @0", "2 @2", "1", "3", "0", "1048576"} {
		d := newDesk(t)
		d.puts("b=2")
		d.takes("do 5.2 1 put a 1 > did 5.2 1 ok", "do 5.2 2 drop b > did 5.2 2 ok", "do 3 1 get b >", "prepare 5.2 "+s+" > vote 5.2 gone; did 3 1 ok=2")
		d.stands("3", "b=3r")
		d.has("b=2")
		d.takes("do 5.2 1 get a > did 5.2 1 gone", "prepare 5.2 2 > vote 5.2 gone")
	}
	for _, n := range []string{"1", "2"} {
		d := newDesk(t)
		d.takes("do 9 1 put w 1 > did 9 1 ok", "do 5 1 put a 1 > did 5 1 ok", "do 5 2 put w 2 >", "do 3 1 get w >", "do 4 1 get a >")
		d.stands("3 4 5 9", "a=5w<4r w=9w<5w+3r")
		d.takes("prepare 5 " + n + " > vote 5 gone; did 4 1 ok")
		d.stands("3 4 9", "a=4r w=9w<3r")
		// What it waited for isn't done when the lock is let go.
		d.takes("abort 9 > did 3 1 ok", "do 5 2 put w 2 > did 5 2 gone")
		d.has("")
	}
}

// P17.3: of the keys that a transaction has those that it only read are the store's Reads: not one that it turned, whether it was read ahead of that or behind it.
func TestPrepareReads(t *testing.T) {
	d := newDesk(t)
	d.puts("a=1", "b=2")
	d.takes(
		"do 5 1 get c > did 5 1 ok", "do 5 2 get b > did 5 2 ok=2", "do 5 3 put b 3 > did 5 3 ok", "do 5 4 drop a > did 5 4 ok", "do 5 5 get a > did 5 5 ok", "do 5 6 get d > did 5 6 ok",
		"do 7 1 get d > did 7 1 ok", "do 3 1 get d > did 3 1 ok", "prepare 5 6 > vote 5 ok", "prepare 7 1 > vote 7 ok",
	)
	is(t, "open in the store", d.storeOpens(), "5!c+d 7!d")
	d.lose()
	d.stands("5! 7!", "a=5w b=5w c=5r d=5r+7r")
}

// P17.3: the store's error is the Vote, and it is undone: more keys that were read than there may be, a store that is full.
func TestPrepareStore(t *testing.T) {
	for over := range 2 {
		d := newDesk(t)
		count := rec.MaxReads + over
		for i := range count {
			d.takes(fmt.Sprintf("do 5 %d get k%d > did 5 %d ok", i+1, i, i+1))
		}
		d.takes(fmt.Sprintf("do 5 %d put w 1 > did 5 %d ok", count+1, count+1), "do 3 1 put k7 1 >", "do 2 1 get w >")
		row := fmt.Sprintf("prepare 5 %d > ", count+1)
		if over == 0 {
			d.takes(row + "vote 5 ok")
			is(t, "Open", d.openText(), "2 3 5!")
			continue
		}
		d.takes(row + "vote 5 many; did 3 1 ok; did 2 1 ok")
		is(t, "Open", d.openText(), "2 3")
		d.has("k7=1")
	}

	d := tight(t)
	d.takes("do 5 1 put a 1 > did 5 1 ok", "do 7 1 get b > did 7 1 ok", "prepare 7 1 > vote 7 ok")
	for n := 8; ; n++ {
		d.takes(fmt.Sprintf("do %d 1 get b > did %d 1 ok", n, n))
		d.oks(d.p.Take(d.msgOf(fmt.Sprintf("prepare %d 1", n))))
		if out := d.out(); out != fmt.Sprintf("vote %d ok", n) {
			is(t, "Vote", out, fmt.Sprintf("vote %d full", n))
			d.takes(fmt.Sprintf("do %d 1 get b > did %d 1 gone", n, n))
			return
		}
	}
}

// P17.3: one of which nothing was done may be prepared, too, as it comes from the store.
func TestPrepareNothing(t *testing.T) {
	d := newDesk(t)
	d.oks(d.s.Put(tidOf("5"), "a", "1"))
	d.renew()
	d.takes("prepare 5 0 > vote 5 ok", "commit 5 > ack 5")
	d.has("a=1")
}

// P17.3: Commit of one that is prepared: it is over, its locks are let go, who waited goes on, and then it is acknowledged.
func TestCommit(t *testing.T) {
	d := newDesk(t)
	d.takes("do 5.2 1 put a 1 > did 5.2 1 ok", "do 5.2 2 get b > did 5.2 2 ok", "do 3 1 get a >", "do 4 1 put b 1 >", "prepare 5.2 2 > vote 5.2 ok")
	d.takes("commit 5.2 > did 3 1 ok=1; did 4 1 ok; ack 5.2")
	d.stands("3 4", "a=3r b=4w")
	is(t, "open in the store", d.storeOpens(), "4")
	d.takes("commit 5.2 > ack 5.2", "commit 5.2 > ack 5.2")
	d.stands("3 4", "a=3r b=4w")
	d.lose()
	d.has("a=1")
	d.stands("", "")
	d.takes("commit 5.2 > ack 5.2")
}

// P17.3: Commit of one that is known and not prepared is nothing; of one that isn't known, or is over, it is acknowledged.
func TestCommitOther(t *testing.T) {
	d := newDesk(t)
	d.takes("do 5 1 put a 1 > did 5 1 ok", "commit 5 >", "do 3 1 get a >", "commit 3 >")
	d.stands("3 5", "a=5w<3r")
	d.has("a=1")
	d.takes("commit 6 > ack 6", "commit 5.1 > ack 5.1")
	d.stands("3 5", "a=5w<3r")
	// One that isn't known isn't over by that.
	d.takes("do 6 1 get b > did 6 1 ok", "abort 6 >", "commit 6 > ack 6", "do 6 1 get b > did 6 1 gone")
}

// P17.3: Abort of one that is known, that waits, that is prepared: it is undone, nothing is answered, and who waited goes on.
func TestAbort(t *testing.T) {
	d := newDesk(t)
	d.puts("a=1", "b=2")
	d.takes("do 5 1 put a x > did 5 1 ok", "do 5 2 drop b > did 5 2 ok", "do 5 3 put a y > did 5 3 ok", "do 3 1 get a >", "do 4 1 put b z >", "abort 5 > did 3 1 ok=1; did 4 1 ok")
	d.stands("3 4", "a=3r b=4w")
	d.has("a=1 b=z")
	d.takes("do 5 4 get a > did 5 4 gone", "do 2 1 put a w >", "do 1 1 get a >")
	d.stands("1 2 3 4", "a=3r<2w+1r b=4w")
	// One that waits has held back who comes behind it.
	d.takes("abort 2 > did 1 1 ok=1")
	d.stands("1 3 4", "a=1r+3r b=4w")
	d.takes("prepare 4 1 > vote 4 ok", "do 0 1 drop b >", "abort 4 > did 0 1 ok", "abort 4 >", "commit 4 > ack 4")
	d.stands("0 1 3", "a=1r+3r b=0w")
	d.takes("abort 0 >", "abort 1 >", "abort 3 >")
	d.stands("", "")
	d.has("a=1 b=2")
	d.lose()
	d.has("a=1 b=2")
}

// P17.3: Abort of one that isn't known lets it be over: a Do that comes behind it does nothing.
func TestAbortUnknown(t *testing.T) {
	d := newDesk(t)
	d.takes("abort 5.2 >", "do 5.2 1 put a 1 > did 5.2 1 gone", "do 5.2 1 put a 1 > did 5.2 1 gone", "do 5.2 2 put a 1 > did 5.2 2 gone", "prepare 5.2 0 > vote 5.2 gone", "abort 5.2 >")
	d.stands("", "")
	d.has("")
	// It is that one of that node alone.
	d.takes("do 5 1 put a 1 > did 5 1 ok", "do 6.2 1 put b 1 > did 6.2 1 ok")
}

// P17.3: an Abort of a prepared one is safe; one that wasn't prepared, and was let go in the store behind the part's back, is over.
func TestAbortStore(t *testing.T) {
	d := newDesk(t)
	d.takes("do 5 1 put a 1 > did 5 1 ok", "prepare 5 1 > vote 5 ok", "abort 5 >")
	d.lose()
	d.stands("", "")
	d.has("")
	d.takes("do 6 1 put a 1 > did 6 1 ok")
	d.oks(d.s.Abort(tidOf("6")))
	d.takes("abort 6 >", "do 6 1 put a 1 > did 6 1 gone")
	d.stands("", "")
	d.takes("do 7 1 put a 1 > did 7 1 ok", "prepare 7 1 > vote 7 ok")
	d.oks(d.s.Commit(tidOf("7")))
	d.takes("commit 7 > ack 7")
	d.stands("", "")
	d.has("a=1")
}
