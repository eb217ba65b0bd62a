package coord

import (
	"fmt"
	"strconv"
	"strings"
	"testing"

	"dockmaster/api"
	"dockmaster/disk"
	"dockmaster/msg"
	"dockmaster/num"
	"dockmaster/store"
)

const me = 1 // the node of all desks

// desk is a node's disk, store and coordinator, with texts for what goes in and comes out. 5 is the fifth transaction of the first life, 2:5 that of the second one, 5@3 one of node 3.
type desk struct {
	t *testing.T
	d *disk.Disk
	c store.Conf
	s *store.Store
	k *Coord
}

func newDesk(t *testing.T) *desk {
	t.Helper()
	return deskOf(t, store.Conf{Log: 2000, Pages: 60, Room: 4})
}

func deskOf(t *testing.T, c store.Conf) *desk {
	t.Helper()
	d := &desk{t: t, d: disk.New(c.Log + c.Pages), c: c}
	d.open()
	return d
}

// deskIn is a desk whose store has such a life: its log has seen all those ahead.
func deskIn(t *testing.T, life uint64) *desk {
	t.Helper()
	d := &desk{t: t, c: store.Conf{Log: 200, Pages: 60, Room: 4}}
	d.d = disk.New(d.c.Log + d.c.Pages)
	master := num.Text(nil, "dock")
	for _, n := range []uint64{1, life - 1, 0, life - 1} {
		master = num.Put(master, n)
	}
	d.oks(d.d.Write(1, master), d.d.Sync())
	d.open()
	if d.s.Life() != life {
		t.Fatal("Life", d.s.Life())
	}
	return d
}

// open opens the store, and the coordinator.
func (d *desk) open() {
	d.t.Helper()
	s, err := store.Open(d.d, d.c)
	if err != api.OK {
		d.t.Fatal("store.Open", err)
	}
	d.s = s
	d.renew()
}

// renew is a new coordinator of the same store.
func (d *desk) renew() {
	d.t.Helper()
	k, err := New(me, d.s)
	if err != api.OK || k == nil {
		d.t.Fatal("New", err)
	}
	d.k = k
}

// lose lets the power go, of what isn't safe nothing stays, and opens all anew.
func (d *desk) lose() {
	d.t.Helper()
	d.d.On(nil, -1)
	d.open()
}

func is(t *testing.T, what, got, want string) {
	t.Helper()
	if got != want {
		t.Errorf("%s:\n%s\nwant\n%s", what, got, want)
	}
}

func (d *desk) oks(errs ...api.Errno) {
	d.t.Helper()
	for i, err := range errs {
		if err != api.OK {
			d.t.Error("answer", i, err)
		}
	}
}

func number(s string) int {
	n, err := strconv.Atoi(s)
	if err != nil {
		panic(err)
	}
	return n
}

func tidOf(s string) api.Tid {
	s, at, other := strings.Cut(s, "@")
	t := api.Tid{Node: me}
	if other {
		t.Node = number(at)
	}
	life, k, has := strings.Cut(s, ":")
	if !has {
		life, k = "1", s
	}
	t.Num = uint64(number(life))*PerLife + uint64(number(k))
	return t
}

func tidText(t api.Tid) string {
	s := fmt.Sprint(t.Num % PerLife)
	if life := t.Num / PerLife; life != 1 {
		s = fmt.Sprint(life, ":", s)
	}
	if t.Node != me {
		s += fmt.Sprint("@", t.Node)
	}
	return s
}

var codes = map[string]api.Errno{
	"ok": api.OK, "arg": api.ErrArg, "many": api.ErrMany, "none": api.ErrNone, "turn": api.ErrTurn, "key": api.ErrKey, "down": api.ErrDown, "full": api.ErrFull,
	"bad": api.ErrBad, "died": api.ErrDied, "gone": api.ErrGone, "abort": api.ErrAbort, "session": api.ErrSession,
}

func codeText(e api.Errno) string {
	for s, c := range codes {
		if c == e {
			return s
		}
	}
	return fmt.Sprint(int(e))
}

func codeOf(s string) api.Errno {
	c, has := codes[s]
	if !has {
		panic(s)
	}
	return c
}

func valText(code api.Errno, has bool, val string) string {
	if has {
		return codeText(code) + "=" + val
	}
	return codeText(code) + val
}

var ops = map[string]int{"get": msg.Get, "put": msg.Put, "drop": msg.Drop}

func opText(op int) string {
	return map[int]string{msg.Get: "get", msg.Put: "put", msg.Drop: "drop"}[op]
}

// msgOf is a message that comes, of a transaction, from a node: "welcome 5 2 7" with Life 7, "did 5 2 1 ok", "did 5 2 1 ok=v" of one that Has v, "did 5 2 1 gone", "vote 5 2 ok", "ack 5 2", "ask 5 2".
func msgOf(s string) msg.Msg {
	w := strings.Fields(s)
	m := msg.Msg{Tid: tidOf(w[1]), From: number(w[2]), To: me}
	m.Kind = map[string]int{"welcome": msg.Welcome, "did": msg.Did, "vote": msg.Vote, "ack": msg.Ack, "ask": msg.Ask}[w[0]]
	switch m.Kind {
	case msg.Welcome:
		m.Life = uint64(number(w[3]))
	case msg.Vote:
		m.Code = codeOf(w[3])
	case msg.Did:
		m.N = number(w[3])
		code, val, has := strings.Cut(w[4], "=")
		m.Code, m.Val, m.Has = codeOf(code), val, has
	}
	return m
}

// outText is a message that goes out, of a transaction, to a node: "hello 5 2", "do 5 2 7 1 put k v" with Life 7 and number 1, "prepare 5 2 7 1", "commit 5 2", "abort 5 2".
func outText(m msg.Msg) string {
	who := fmt.Sprint(tidText(m.Tid), " ", m.To)
	switch m.Kind {
	case msg.Hello:
		return "hello " + who
	case msg.Do:
		return strings.TrimSpace(fmt.Sprint("do ", who, " ", m.Life, " ", m.N, " ", opText(m.Op), " ", m.Key, " ", m.Val))
	case msg.Prepare:
		return fmt.Sprint("prepare ", who, " ", m.Life, " ", m.N)
	case msg.Commit:
		return "commit " + who
	case msg.Abort:
		return "abort " + who
	}
	return fmt.Sprint(m)
}

// news is what goes out, each a right message from this node, and then what is told: "told 5 ok", "told 5 ok=v".
func (d *desk) news() string {
	d.t.Helper()
	var texts []string
	for _, m := range d.k.Out() {
		if !m.Right() || m.From != me || m.Tid.Node != me {
			d.t.Error("goes out:", m)
		}
		texts = append(texts, outText(m))
	}
	for _, x := range d.k.Told() {
		texts = append(texts, fmt.Sprint("told ", tidText(x.Tid), " ", valText(x.Code, x.Has, x.Val)))
	}
	return strings.Join(texts, "; ")
}

// call makes a call by its text: "begin", "tick", "do 5 2 put k v", "commit 5", "abort 5", or a message that comes.
func (d *desk) call(s string) api.Errno {
	w := strings.Fields(s)
	switch w[0] {
	case "begin":
		_, err := d.k.Begin()
		return err
	case "tick":
		d.k.Tick()
		return api.OK
	case "do":
		return d.k.Do(tidOf(w[1]), number(w[2]), ops[w[3]], w[4], strings.Join(w[5:], " "))
	case "commit":
		return d.k.Commit(tidOf(w[1]))
	case "abort":
		return d.k.Abort(tidOf(w[1]))
	}
	return d.k.Take(msgOf(s))
}

// runs makes calls, each as "call > what goes out; what is told"; the call's error, if it isn't OK, stands ahead of these, as "!turn".
func (d *desk) runs(rows ...string) {
	d.t.Helper()
	for _, row := range rows {
		in, want, _ := strings.Cut(row, ">")
		err := d.call(in)
		got := d.news()
		if err != api.OK {
			got = "!" + codeText(err) + got
		}
		is(d.t, row, got, strings.TrimSpace(want))
	}
}

// begins begins so many transactions.
func (d *desk) begins(n int) {
	d.t.Helper()
	for range n {
		d.runs("begin >")
	}
}

// does lets a node do a thing for a transaction: the first one, if there is a life, else that of a number.
func (d *desk) does(t string, node, life, n int) {
	d.t.Helper()
	do := fmt.Sprintf("do %s %d %d %d put k v", t, node, life, n)
	ask := fmt.Sprintf("do %s %d put k v > ", t, node)
	if n == 1 {
		d.runs(fmt.Sprintf("%shello %s %d", ask, t, node), fmt.Sprintf("welcome %s %d %d > %s", t, node, life, do))
	} else {
		d.runs(ask + do)
	}
	d.runs(fmt.Sprintf("did %s %d %d ok > told %s ok", t, node, n, t))
}

// ticks lets some ticks go, and holds what goes out at each against texts.
func (d *desk) ticks(news ...string) {
	d.t.Helper()
	for i, want := range news {
		d.k.Tick()
		is(d.t, fmt.Sprint("tick ", i+1), d.news(), want)
	}
}

// openText is what is under way, ? behind what isn't Idle.
func (d *desk) openText() string {
	var texts []string
	for _, t := range d.k.Open() {
		s := tidText(t)
		if !d.k.Idle(t) {
			s += "?"
		}
		texts = append(texts, s)
	}
	return strings.Join(texts, " ")
}

// donesText is what is decided in the store: "5:0+2" has to be known still to 0 and 2.
func (d *desk) donesText() string {
	var texts []string
	for _, x := range d.s.Dones() {
		texts = append(texts, tidText(x.Tid)+":"+strings.ReplaceAll(strings.Trim(fmt.Sprint(x.Nodes), "[]"), " ", "+"))
	}
	return strings.Join(texts, " ")
}

// stands holds what is under way, and what is decided, against texts.
func (d *desk) stands(open, dones string) {
	d.t.Helper()
	is(d.t, "Open", d.openText(), open)
	is(d.t, "Dones", d.donesText(), dones)
}

// decides lets the store have decided a transaction.
func (d *desk) decides(t string, nodes ...int) {
	d.t.Helper()
	d.oks(d.s.Decide(tidOf(t), nodes))
}

// refused makes a call that is answered with an error, and turns nothing.
func (d *desk) refused(want api.Errno, what string, call func() api.Errno) {
	d.t.Helper()
	open, dones := d.openText(), d.donesText()
	if err := call(); err != want {
		d.t.Error(what, "is answered", err, "want", want)
	}
	is(d.t, what, d.news(), "")
	d.stands(open, dones)
}
