package sess

import (
	"fmt"
	"strconv"
	"strings"
	"testing"

	"dockmaster/api"
)

// desk is a table, with texts for what goes in and comes out. 5 is the transaction 5 of node 0, 5.2 that of node 2; 0 is the zero one.
type desk struct {
	t *testing.T
	b *Table
}

func newDesk(t *testing.T) *desk {
	t.Helper()
	return &desk{t: t, b: New()}
}

func is(t *testing.T, what, got, want string) {
	t.Helper()
	if got != want {
		t.Errorf("%s:\n%s\nwant\n%s", what, got, want)
	}
}

func number(s string) int {
	n, err := strconv.Atoi(s)
	if err != nil {
		panic(err)
	}
	return n
}

func tidOf(s string) api.Tid {
	num, node, has := strings.Cut(s, ".")
	t := api.Tid{Num: uint64(number(num))}
	if has {
		t.Node = number(node)
	}
	return t
}

func tidText(t api.Tid) string {
	if t.Node == 0 {
		return fmt.Sprint(t.Num)
	}
	return fmt.Sprintf("%d.%d", t.Num, t.Node)
}

var codes = map[string]api.Errno{
	"ok": api.OK, "arg": api.ErrArg, "many": api.ErrMany, "turn": api.ErrTurn, "key": api.ErrKey, "full": api.ErrFull,
	"died": api.ErrDied, "abort": api.ErrAbort, "unknown": api.ErrUnknown, "session": api.ErrSession,
}

func codeText(e api.Errno) string {
	for s, c := range codes {
		if c == e {
			return s
		}
	}
	return fmt.Sprint(int(e))
}

var kinds = map[string]int{"begin": Begin, "get": Get, "put": Put, "drop": Drop, "commit": Commit, "abort": Abort}

// callOf is a call: "1.2 put k v" is the one with the number 2 of session 1.
func callOf(s string) Call {
	w := strings.Fields(s)
	sess, req, _ := strings.Cut(w[0], ".")
	c := Call{Sess: number(sess), Req: number(req), Kind: kinds[w[1]]}
	if len(w) > 2 {
		c.Key, c.Val = w[2], strings.Join(w[3:], " ")
	}
	return c
}

// answerText is an answer: "1.2 ok=v of 5" to the call with the number 2 of session 1, of transaction 5.
func answerText(a Answer) string {
	s := fmt.Sprint(a.Sess, ".", a.Req, " ", codeText(a.Code))
	if a.Has {
		s += "="
	}
	return s + a.Val + " of " + tidText(a.Tid)
}

// take is what a call is answered: "said 1.2 ok of 5", "waits", "start 5".
func (d *desk) take(c Call) string {
	d.t.Helper()
	w, a, t := d.b.Take(c)
	if w != Said && a != (Answer{}) || w != Start && t != (api.Tid{}) {
		d.t.Error(c, "is answered", w, a, t)
	}
	switch w {
	case Said:
		return "said " + answerText(a)
	case Waits:
		return "waits"
	case Start:
		return "start " + tidText(t)
	}
	return fmt.Sprint(int(w))
}

func (d *desk) answered(a Answer, ok bool) string {
	d.t.Helper()
	if ok {
		return answerText(a)
	}
	if a != (Answer{}) {
		d.t.Error("false, and", a)
	}
	return "no"
}

// does makes a call of the table: a session's call, "open 1 5", "fail 1 full", "told 5 ok=v", "over 5 ok".
func (d *desk) does(s string) string {
	d.t.Helper()
	w := strings.Fields(s)
	switch w[0] {
	case "open":
		return d.answered(d.b.Open(number(w[1]), tidOf(w[2])))
	case "fail":
		return d.answered(d.b.Fail(number(w[1]), codes[w[2]]))
	case "told", "over":
		code, val, has := strings.Cut(w[2], "=")
		return d.answered(d.b.Told(tidOf(w[1]), codes[code], val, has, w[0] == "over"))
	}
	return d.take(callOf(s))
}

// runs makes calls, each as "call > what it is answered".
func (d *desk) runs(rows ...string) {
	d.t.Helper()
	for _, row := range rows {
		in, want, _ := strings.Cut(row, " > ")
		is(d.t, row, d.does(in), want)
	}
}

// busyText is what Busy tells.
func (d *desk) busyText() string {
	var texts []string
	for _, a := range d.b.Busy() {
		texts = append(texts, answerText(a))
	}
	return strings.Join(texts, "; ")
}

// stands holds how many sessions there are, and what Busy tells, against what is wanted.
func (d *desk) stands(count int, busy string) {
	d.t.Helper()
	if d.b.Len() != count {
		d.t.Error("Len", d.b.Len(), "want", count)
	}
	is(d.t, "Busy", d.busyText(), busy)
}
