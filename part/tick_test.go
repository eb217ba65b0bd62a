package part

import "testing"

// P17.4: an Ask goes out Pause ticks behind the one at which a transaction became known, not one earlier, and Pause behind each Ask.
func TestTick(t *testing.T) {
	d := newDesk(t)
	d.ticks(times(2*Pause, "")...)
	d.takes("do 5.2 1 put a 1 > did 5.2 1 ok")
	for range 3 {
		d.ticks("", "", "", "ask 5.2")
	}
	d.ticks("", "")
	// That something was done, or prepared, or asked for in vain, is nothing to that.
	d.takes("do 5.2 2 get b > did 5.2 2 ok", "do 5.2 2 get b > did 5.2 2 ok", "hello 5.2 > welcome 5.2 1", "do 5.2 7 get b >", "do 5.2 2 get b @9 > did 5.2 2 gone", "commit 5.2 >")
	d.ticks("")
	d.takes("prepare 5.2 2 > vote 5.2 ok")
	d.ticks("ask 5.2", "", "", "", "ask 5.2")
	d.takes("commit 5.2 > ack 5.2")
	d.ticks(times(3*Pause, "")...)
}

// P17.4: several: at each tick those that are due, the elder ones ahead, whatever the order in which they became known; one that waits, too.
func TestTickSeveral(t *testing.T) {
	d := newDesk(t)
	d.takes("do 7 1 put a 1 > did 7 1 ok", "do 5.3 1 get b > did 5.3 1 ok", "do 5.1 1 get b > did 5.1 1 ok", "do 2 1 get a >")
	d.ticks("")
	d.takes("do 6 1 get c > did 6 1 ok", "do 1 1 get c > did 1 1 ok")
	d.ticks("", "", "ask 2; ask 5.1; ask 5.3; ask 7", "ask 1; ask 6", "", "", "ask 2; ask 5.1; ask 5.3; ask 7", "ask 1; ask 6")
	d.takes("abort 5.1 >", "abort 6 >", "abort 7 > did 2 1 ok")
	d.ticks("", "", "ask 2; ask 5.3", "ask 1", "")
	d.takes("do 9 1 get b > did 9 1 ok")
	d.ticks("", "ask 2; ask 5.3", "ask 1", "ask 9")
}

// P17.4: one that is over, or that isn't known, isn't asked for: whichever way it came to its end.
func TestTickOver(t *testing.T) {
	d := newDesk(t)
	d.takes(
		"do 1 1 put a 1 > did 1 1 ok", "do 2 1 get b > did 2 1 ok", "do 3 1 get a > did 3 1 died", "do 4 2 get a > did 4 2 gone", "abort 5 >", "prepare 6 0 > vote 6 gone", "commit 7 > ack 7",
		"hello 8 > welcome 8 1", "prepare 2 2 > vote 2 gone", "abort 1 >",
	)
	d.ticks(times(3*Pause, "")...)
}

// P17.4: what New knows is asked for Pause ticks behind it, prepared or not.
func TestTickNew(t *testing.T) {
	d := newDesk(t)
	d.takes("do 7 1 put a 1 > did 7 1 ok", "do 5.3 1 get b > did 5.3 1 ok", "prepare 7 1 > vote 7 ok", "prepare 5.3 1 > vote 5.3 ok")
	d.ticks("", "", "", "ask 5.3; ask 7", "", "")
	d.lose()
	d.takes("do 3 1 get c > did 3 1 ok")
	d.ticks("", "", "", "ask 3; ask 5.3; ask 7", "", "", "", "ask 3; ask 5.3; ask 7")
	d.oks(d.s.Put(tidOf("4"), "d", "1"))
	d.renew()
	d.ticks("", "", "", "ask 4; ask 5.3; ask 7")
}

// P17.4: Open, Ready and Locks at each step of a transaction's way.
func TestTold(t *testing.T) {
	d := newDesk(t)
	d.stands("", "")
	for _, c := range []struct{ row, open, locks string }{
		{"hello 5 > welcome 5 1", "", ""},
		{"do 5 1 get a > did 5 1 ok", "5", "a=5r"},
		{"do 5.1 1 get a > did 5.1 1 ok", "5 5.1", "a=5r+5.1r"},
		{"do 4.9 1 put a 1 >", "4.9 5 5.1", "a=5r+5.1r<4.9w"},
		{"do 6 1 get a > did 6 1 died", "4.9 5 5.1", "a=5r+5.1r<4.9w"},
		{"prepare 5 1 > vote 5 ok", "4.9 5! 5.1", "a=5r+5.1r<4.9w"},
		{"abort 5.1 >", "4.9 5!", "a=5r<4.9w"},
		{"commit 5 > did 4.9 1 ok; ack 5", "4.9", "a=4.9w"},
		{"do 4.9 2 drop b > did 4.9 2 ok", "4.9", "a=4.9w b=4.9w"},
		{"prepare 4.9 2 > vote 4.9 ok", "4.9!", "a=4.9w b=4.9w"},
		{"commit 4.9 > ack 4.9", "", ""},
	} {
		d.takes(c.row)
		d.stands(c.open, c.locks)
		if d.p.Ready(tidOf("77")) || d.p.Ready(tidOf("6")) {
			t.Error("ready")
		}
	}
}

// P17.4: Locks is the part's own table: who else asks for a lock there holds the others back.
func TestLocksShared(t *testing.T) {
	d := newDesk(t)
	l := d.p.Locks()
	l.Ask(tidOf("9"), "a", 2)
	d.takes("do 5 1 put a 1 >", "do 10 1 put a 1 > did 10 1 died")
	l.Ask(tidOf("3"), "a", 2)
	d.stands("5", "a=9w<5w+3w")
	d.takes("abort 5 >")
	d.stands("", "a=9w<3w")
	if d.p.Locks() != l {
		t.Error("another table")
	}
	// A lock for which nothing of a transaction waits is given, and no more.
	d.takes("do 8 1 put b 1 > did 8 1 ok", "do 7 1 get c > did 7 1 ok", "do 6 1 get d > did 6 1 ok", "do 6 2 put c 1 >")
	l.Ask(tidOf("8"), "", 2)
	l.Ask(tidOf("7"), "", 2)
	l.Ask(tidOf("6"), "b", 1)
	d.takes("abort 8 >", "do 7 2 get c > did 7 2 ok", "abort 7 > did 6 2 ok")
	d.stands("6", "a=9w<3w b=6r c=6w d=6r")
}
