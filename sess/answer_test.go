package sess

import (
	"strings"
	"testing"

	"dockmaster/api"
)

// P19.2: Open of no such session, of one without a call under way, of one that has a transaction: false, and nothing turns.
func TestOpen(t *testing.T) {
	d := newDesk(t)
	d.runs("open 1 5 > no", "open -1 5 > no", "1.1 begin > start 0", "open 2 5 > no", "open 0 5 > no", "open -1 5 > no")
	d.stands(1, "1.1 unknown of 0")
	d.runs("open 1 5 > 1.1 ok of 5", "open 1 6 > no", "1.2 get k > start 5", "open 1 6 > no", "open 1 5 > no")
	d.stands(1, "1.2 unknown of 5")
	d.runs("told 6 ok > no", "told 5 ok > 1.2 ok of 5", "2.1 get k > said 2.1 turn of 0", "open 2 7 > no", "2.2 begin > start 0", "open 2 7 > 2.2 ok of 7")
	d.stands(2, "")
}

// P19.2: any Tid may be a session's transaction, the zero one, too.
func TestOpenZero(t *testing.T) {
	d := newDesk(t)
	d.runs("told 0 ok > no", "1.1 begin > start 0", "told 0 ok > no", "open 1 0 > 1.1 ok of 0", "1.2 begin > said 1.2 turn of 0", "1.3 get k > start 0", "open 1 5 > no", "over 0 ok=v > 1.3 ok=v of 0", "1.4 get k > said 1.4 turn of 0")
	x := api.Tid{Num: 1<<64 - 1, Node: -1 << 63}
	d.runs("1.5 begin > start 0")
	if a, ok := d.b.Open(1, x); !ok || a != (Answer{Sess: 1, Req: 5, Tid: x}) {
		t.Error(a, ok)
	}
	d.runs("1.6 none > said 1.6 arg of 18446744073709551615.-9223372036854775808")
}

// P19.2: Fail: whatever the error, the call is answered, and a transaction goes on.
func TestFail(t *testing.T) {
	d := newDesk(t)
	d.runs("fail 1 full > no", "fail -1 full > no", "1.1 begin > start 0", "fail 2 full > no", "fail 0 full > no", "fail 1 many > 1.1 many of 0", "fail 1 many > no", "1.1 begin > said 1.1 many of 0")
	d.runs("1.2 get k > said 1.2 turn of 0", "fail 1 many > no", "1.3 begin > start 0", "open 1 5 > 1.3 ok of 5", "fail 1 full > no")
	d.runs("1.4 put k v > start 5", "fail 1 arg > 1.4 arg of 5", "1.4 put k v > said 1.4 arg of 5", "told 5 ok > no", "1.5 put k v > start 5", "fail 1 ok > 1.5 ok of 5", "1.6 begin > said 1.6 turn of 5", "1.7 abort > start 5", "told 5 ok > 1.7 ok of 5")
	d.stands(1, "")
	for e := api.OK; e <= api.ErrSession; e++ {
		d := newDesk(t)
		d.runs("1.1 begin > start 0")
		if a, ok := d.b.Fail(1, e); !ok || a != (Answer{Sess: 1, Req: 1, Code: e}) {
			t.Error(e, a, ok)
		}
	}
}

// P19.2: Told: of a Tid that isn't a session's, and of one of which no call is under way, false; when it isn't over the transaction goes on, and when it is there is none.
func TestTold(t *testing.T) {
	d := newDesk(t)
	d.runs("told 5 ok > no", "over 5 ok > no", "1.1 begin > start 0", "over 5 ok > no", "open 1 5.2 > 1.1 ok of 5.2")
	for _, tid := range []string{"5", "5.1", "5.3", "6.2", "0"} {
		d.runs("told "+tid+" ok > no", "over "+tid+" ok > no")
	}
	// No call is under way: it isn't over by that.
	d.runs("told 5.2 ok=v > no", "over 5.2 ok > no", "1.2 begin > said 1.2 turn of 5.2", "over 5.2 died > no", "1.3 get k > start 5.2")
	for _, tid := range []string{"5", "5.1", "5.3", "6.2", "0"} {
		d.runs("told "+tid+" ok > no", "over "+tid+" ok > no")
	}
	d.stands(1, "1.3 unknown of 5.2")
	d.runs("told 5.2 ok=v > 1.3 ok=v of 5.2", "told 5.2 ok=v > no", "1.4 put k v > start 5.2", "told 5.2 ok > 1.4 ok of 5.2")
	d.runs("1.5 get k > start 5.2", "told 5.2 full > 1.5 full of 5.2", "1.6 get k > start 5.2", "told 5.2 ok= > 1.6 ok= of 5.2", "1.7 commit > start 5.2", "over 5.2 abort=x > 1.7 abort=x of 5.2", "1.7 commit > said 1.7 abort=x of 5.2")
	d.runs("over 5.2 ok > no", "1.8 begin > start 0", "over 5.2 ok > no", "told 5.2 ok > no", "open 1 5.2 > 1.8 ok of 5.2", "1.9 get k > start 5.2", "told 5.2 ok > 1.9 ok of 5.2")
	if a, ok := d.b.Told(tidOf("5.2"), api.ErrDied, "v", false, true); ok || a != (Answer{}) {
		t.Error(a, ok)
	}
	d.runs("1.10 get k > start 5.2")
	// What is told comes as it is.
	if a, ok := d.b.Told(tidOf("5.2"), api.ErrDied, "v", false, true); !ok || a != (Answer{Sess: 1, Req: 10, Code: api.ErrDied, Val: "v", Tid: tidOf("5.2")}) {
		t.Error(a, ok)
	}
}

// P19.2: a transaction of several sessions is told to the last one for which it was Opened, also when it isn't that which waits; when it is over it is nobody's, though the others have it still.
func TestToldSeveral(t *testing.T) {
	for _, names := range []*strings.Replacer{strings.NewReplacer("F", "1", "L", "3"), strings.NewReplacer("F", "3", "L", "1")} {
		d := newDesk(t)
		runs := func(rows ...string) {
			t.Helper()
			for _, row := range rows {
				d.runs(names.Replace(row))
			}
		}
		runs("F.1 begin > start 0", "open F 5 > F.1 ok of 5", "F.2 get k > start 5", "L.1 begin > start 0", "open L 5 > L.1 ok of 5")
		runs("told 5 ok > no", "over 5 ok > no", "L.2 get k > start 5", "told 5 ok=x > L.2 ok=x of 5", "told 5 ok=x > no")
		d.stands(2, names.Replace("F.2 unknown of 5"))
		runs("L.3 get k > start 5", "over 5 ok > L.3 ok of 5", "told 5 ok > no", "over 5 ok > no")
		d.stands(2, names.Replace("F.2 unknown of 5"))
		runs("fail F full > F.2 full of 5", "F.3 commit > start 5", "over 5 ok > no")
		// It is somebody's again when it is Opened again.
		runs("L.4 begin > start 0", "open L 5 > L.4 ok of 5", "L.5 get k > start 5", "told 5 ok > L.5 ok of 5")
	}
}

// P19.2: sessions with a transaction each: what is told of one is nothing to the others.
func TestToldApart(t *testing.T) {
	d := newDesk(t)
	d.runs("1.1 begin > start 0", "2.1 begin > start 0", "open 2 6 > 2.1 ok of 6", "open 1 5 > 1.1 ok of 5", "1.2 get a > start 5", "2.2 get a > start 6")
	d.stands(2, "1.2 unknown of 5; 2.2 unknown of 6")
	d.runs("over 6 died > 2.2 died of 6", "told 5 ok=x > 1.2 ok=x of 5", "2.3 begin > start 0", "1.3 get b > start 5", "open 2 8 > 2.3 ok of 8", "told 5 ok > 1.3 ok of 5")
}

// P19.2: Busy is by the sessions' numbers, those alone whose call is under way, and turns nothing.
func TestBusy(t *testing.T) {
	d := newDesk(t)
	d.runs("20.1 begin > start 0", "3.1 begin > start 0", "0.1 none > said 0.1 arg of 0", "100.1 begin > start 0", "7.1 begin > start 0", "open 7 9 > 7.1 ok of 9", "7.2 get k > start 9", "open 3 8.1 > 3.1 ok of 8.1", "0.2 begin > start 0")
	for range 2 {
		d.stands(5, "0.2 unknown of 0; 7.2 unknown of 9; 20.1 unknown of 0; 100.1 unknown of 0")
	}
	busy := d.b.Busy()
	busy[0] = Answer{}
	d.runs("told 9 ok=v > 7.2 ok=v of 9", "7.2 get k > said 7.2 ok=v of 9", "fail 100 many > 100.1 many of 0")
	d.stands(5, "0.2 unknown of 0; 20.1 unknown of 0")
}

// P19.2: of a nil Table, and of one that New hasn't made.
func TestNil(t *testing.T) {
	for _, b := range []*Table{nil, {}} {
		d := &desk{t: t, b: b}
		for _, s := range []string{"1.1", "0.1", "-1.1", "1.2", "7.0"} {
			for _, kind := range []string{"begin", "get k", "none"} {
				d.runs(s + " " + kind + " > said " + s + " session of 0")
			}
		}
		d.runs("open 1 5 > no", "open 0 0 > no", "fail 1 full > no", "told 5 ok > no", "over 0 ok > no")
		d.stands(0, "")
	}
}
