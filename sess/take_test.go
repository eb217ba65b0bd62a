package sess

import (
	"fmt"
	"slices"
	"strings"
	"testing"

	"dockmaster/api"
)

// P19.1: a session's calls, one behind the other: each is started once, waits while it is under way, and is answered the same however often it is made again.
func TestTake(t *testing.T) {
	d := newDesk(t)
	d.stands(0, "")
	d.runs("1.1 begin > start 0")
	d.stands(1, "1.1 unknown of 0")
	d.runs("1.1 begin > waits", "1.1 begin > waits", "open 1 5 > 1.1 ok of 5", "1.1 begin > said 1.1 ok of 5")
	d.stands(1, "")
	d.runs("1.2 put k v > start 5", "1.2 put k v > waits", "told 5 ok > 1.2 ok of 5", "1.2 put k v > said 1.2 ok of 5", "1.2 put k v > said 1.2 ok of 5")
	d.runs("1.3 get k > start 5", "told 5 ok=v > 1.3 ok=v of 5", "1.3 get k > said 1.3 ok=v of 5")
	d.runs("1.4 drop k > start 5", "told 5 ok > 1.4 ok of 5", "1.5 commit > start 5")
	d.stands(1, "1.5 unknown of 5")
	d.runs("1.5 commit > waits", "over 5 ok > 1.5 ok of 5", "1.5 commit > said 1.5 ok of 5", "1.6 begin > start 0", "open 1 7.2 > 1.6 ok of 7.2", "1.7 abort > start 7.2", "over 7.2 ok > 1.7 ok of 7.2")
	d.stands(1, "")
}

// P19.1: a call is known by its number alone: what else it says the second time is nothing.
func TestTakeByNumber(t *testing.T) {
	d := newDesk(t)
	d.runs("1.1 begin > start 0", "1.1 put k v > waits", "1.1 none > waits", "open 1 5 > 1.1 ok of 5", "1.1 get k > said 1.1 ok of 5", "1.1 none > said 1.1 ok of 5")
	d.runs("1.2 none > said 1.2 arg of 5", "1.2 get k > said 1.2 arg of 5", "1.3 get k > start 5")
}

// P19.1: which numbers a session may have, and which one its first call has; what isn't one isn't there.
func TestTakeFirst(t *testing.T) {
	d := newDesk(t)
	for _, s := range []string{"-1.1", "-1.0", "-1.2", "-9223372036854775808.1", "0.0", "0.2", "0.-1", "1.2", "1.3", "9223372036854775807.2", "7.9223372036854775807", "7.-9223372036854775808"} {
		d.runs(s + " begin > said " + s + " session of 0")
	}
	d.stands(0, "")
	d.runs("0.1 begin > start 0", "9223372036854775807.1 begin > start 0", "1.1 get k > said 1.1 turn of 0")
	d.stands(3, "0.1 unknown of 0; 9223372036854775807.1 unknown of 0")
}

// P19.1: MaxSess sessions, whichever they are, and not one more; those that are there go on.
func TestTakeMaxSess(t *testing.T) {
	d := newDesk(t)
	for i := range MaxSess {
		if i%2 == 0 {
			d.runs(fmt.Sprintf("%d.1 begin > start 0", 3*i))
		} else {
			// One whose first call was answered with an error is one, too.
			d.runs(fmt.Sprintf("%d.1 none > said %d.1 arg of 0", 3*i, 3*i))
		}
	}
	if MaxSess != 100 || d.b.Len() != 100 || len(d.b.Busy()) != 50 {
		t.Error(MaxSess, d.b.Len(), len(d.b.Busy()))
	}
	d.runs("1.1 begin > said 1.1 session of 0", "300.1 begin > said 300.1 session of 0", "1.1 none > said 1.1 session of 0")
	d.runs("0.1 begin > waits", "open 0 5 > 0.1 ok of 5", "0.2 commit > start 5", "over 5 ok > 0.2 ok of 5", "1.1 begin > said 1.1 session of 0", "297.2 begin > start 0")
	if d.b.Len() != 100 {
		t.Error(d.b.Len())
	}
}

// P19.1: while a call is under way, its number alone; else the last one's, or one more; all others are answered, and turn nothing.
func TestTakeNumbers(t *testing.T) {
	d := newDesk(t)
	others := func(reqs ...int) {
		t.Helper()
		for _, n := range reqs {
			d.runs(fmt.Sprintf("1.%d begin > said 1.%d session of 0", n, n), fmt.Sprintf("1.%d none > said 1.%d session of 0", n, n))
		}
	}
	d.runs("1.1 begin > start 0")
	others(0, 2, 3, -1, 100)
	d.stands(1, "1.1 unknown of 0")
	d.runs("open 1 5 > 1.1 ok of 5")
	others(0, 3, 4, -1)
	d.runs("1.2 get k > start 5")
	others(0, 1, 3, 4)
	d.stands(1, "1.2 unknown of 5")
	d.runs("1.2 get k > waits", "told 5 ok > 1.2 ok of 5")
	others(0, 1, 4, 5)
	d.runs("1.3 get k > start 5", "fail 1 full > 1.3 full of 5", "1.3 get k > said 1.3 full of 5", "1.4 get k > start 5", "over 5 died > 1.4 died of 5")
	others(0, 1, 2, 3, 6)
	d.runs("1.4 get k > said 1.4 died of 5", "1.5 begin > start 0")
}

// P19.1: which Kinds there are, and which of them need that there is a transaction, or none.
func TestTakeKinds(t *testing.T) {
	for kind := -1; kind <= 8; kind++ {
		for with := range 2 {
			d := newDesk(t)
			req, tid := 1, "0"
			if with > 0 {
				d.runs("1.1 begin > start 0", "open 1 5.2 > 1.1 ok of 5.2")
				req, tid = 2, "5.2"
			}
			code := ""
			switch {
			case kind < 1 || kind > 6:
				code = "arg"
			case (kind == Begin) == (with > 0):
				code = "turn"
			}
			got := d.take(Call{Sess: 1, Req: req, Kind: kind, Key: "k"})
			if code == "" {
				is(t, fmt.Sprint(kind), got, "start "+tid)
				d.stands(1, fmt.Sprintf("1.%d unknown of %s", req, tid))
				continue
			}
			// It is the session's last call.
			is(t, fmt.Sprint(kind), got, fmt.Sprintf("said 1.%d %s of %s", req, code, tid))
			is(t, fmt.Sprint(kind), d.take(Call{Sess: 1, Req: req, Kind: Begin}), got)
			d.stands(1, "")
			is(t, "the next", d.take(Call{Sess: 1, Req: req + 1, Kind: 9}), fmt.Sprintf("said 1.%d arg of %s", req+1, tid))
		}
	}
	for i, k := range []int{Begin, Get, Put, Drop, Commit, Abort} {
		if k != i+1 {
			t.Error(k)
		}
	}
	if !slices.Equal([]What{Said, Waits, Start}, []What{1, 2, 3}) {
		t.Error(Said, Waits, Start)
	}
}

// P19.1: keys and texts that aren't right: of Get, Put and Drop the key, of Put alone the text; the error that the chapter names first.
func TestTakeTexts(t *testing.T) {
	k, long := strings.Repeat("k", api.MaxKey), strings.Repeat("k", api.MaxKey+1)
	v, wide := strings.Repeat("v", api.MaxVal), strings.Repeat("v", api.MaxVal+1)
	d := newDesk(t)
	d.runs("1.1 begin > start 0", "open 1 5 > 1.1 ok of 5")
	req := 2
	for _, x := range []struct {
		kind     int
		key, val string
		want     string
	}{
		{Get, "", "", "arg"}, {Put, "", "v", "arg"}, {Put, "", wide, "arg"}, {Drop, "", "", "arg"}, {Get, long, "", "key"}, {Put, long, "v", "key"}, {Drop, long, "", "key"}, {Put, long, wide, "key"},
		{Put, "k", wide, "key"}, {Put, k, v, ""}, {Put, "\x00", "", ""}, {Get, k, wide, ""}, {Drop, k, wide, ""}, {Get, "k", "v", ""},
		{Commit, "", "", ""}, {Commit, long, wide, ""}, {Abort, long, wide, ""}, {Abort, "", wide, ""}, {Begin, "", "", "turn"}, {Begin, long, wide, "turn"}, {0, long, wide, "arg"}, {7, "", "", "arg"},
	} {
		want := fmt.Sprintf("said 1.%d %s of 5", req, x.want)
		if x.want == "" {
			want = "start 5"
		}
		c := Call{Sess: 1, Req: req, Kind: x.kind, Key: x.key, Val: x.val}
		is(t, fmt.Sprint(c), d.take(c), want)
		if x.want == "" {
			d.runs(fmt.Sprintf("told 5 ok > 1.%d ok of 5", req))
		}
		req++
	}
	// Without a transaction it isn't the key that counts.
	c := Call{Sess: 2, Req: 1, Kind: Put, Key: long, Val: wide}
	is(t, "without", d.take(c), "said 2.1 turn of 0")
	c = Call{Sess: 3, Req: 1, Kind: Begin, Key: long, Val: wide}
	is(t, "Begin", d.take(c), "start 0")
}

// P19.1: an answer is of the transaction that there was then, whatever became of that.
func TestTakeAnswer(t *testing.T) {
	d := newDesk(t)
	d.runs("1.1 begin > start 0", "open 1 5 > 1.1 ok of 5", "1.2 begin > said 1.2 turn of 5", "1.3 commit > start 5", "over 5 abort > 1.3 abort of 5", "1.3 commit > said 1.3 abort of 5", "1.4 get k > said 1.4 turn of 0")
	d.runs("1.5 begin > start 0", "open 1 6 > 1.5 ok of 6", "1.5 begin > said 1.5 ok of 6", "1.6 get k > start 6")
}
