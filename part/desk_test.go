package part

import (
	"fmt"
	"slices"
	"strconv"
	"strings"
	"testing"

	"dockmaster/api"
	"dockmaster/disk"
	"dockmaster/lock"
	"dockmaster/msg"
	"dockmaster/store"
)

const me = 1 // the node of all desks

// desk is a node's disk, store and part, with texts for what goes in and comes out. 5 is the transaction 5 of node 0, 5.2 that of node 2.
type desk struct {
	t *testing.T
	d *disk.Disk
	c store.Conf
	s *store.Store
	p *Part
}

func newDesk(t *testing.T) *desk {
	t.Helper()
	return deskOf(t, store.Conf{Log: 2000, Pages: 600, Room: 4})
}

// tight is a desk where there is room for one update of a transaction that is open, and for no other one.
func tight(t *testing.T) *desk {
	t.Helper()
	return deskOf(t, store.Conf{Log: 100, Pages: 100, Room: 4})
}

func deskOf(t *testing.T, c store.Conf) *desk {
	t.Helper()
	d := &desk{t: t, d: disk.New(c.Log + c.Pages), c: c}
	d.open()
	return d
}

// open opens the store, and the part.
func (d *desk) open() {
	d.t.Helper()
	s, err := store.Open(d.d, d.c)
	if err != api.OK {
		d.t.Fatal("store.Open", err)
	}
	d.s = s
	d.renew()
}

// renew is a new part of the same store.
func (d *desk) renew() {
	d.t.Helper()
	p, err := New(me, d.s)
	if err != api.OK || p == nil {
		d.t.Fatal("New", err)
	}
	d.p = p
}

// lose lets the power go, of what isn't safe nothing stays, and opens all anew.
func (d *desk) lose() {
	d.t.Helper()
	d.d.On(nil, -1)
	d.open()
}

func is(t *testing.T, what, got, want string) {
	t.Helper()
	if got != want {
		t.Errorf("%s:\n%s\nwant\n%s", what, got, want)
	}
}

func (d *desk) oks(errs ...api.Errno) {
	d.t.Helper()
	for i, err := range errs {
		if err != api.OK {
			d.t.Error("answer", i, err)
		}
	}
}

func number(s string) int {
	n, err := strconv.Atoi(s)
	if err != nil {
		panic(err)
	}
	return n
}

func tidOf(s string) api.Tid {
	num, node, has := strings.Cut(s, ".")
	t := api.Tid{Num: uint64(number(num))}
	if has {
		t.Node = number(node)
	}
	return t
}

func tidText(t api.Tid) string {
	if t.Node == 0 {
		return fmt.Sprint(t.Num)
	}
	return fmt.Sprintf("%d.%d", t.Num, t.Node)
}

// msgOf is a message that comes: "hello 5", "do 5 1 put k v", "prepare 5 1", "commit 5", "abort 5"; with @7 at the end it has Life 7, else the store's.
func (d *desk) msgOf(s string) msg.Msg {
	s, life, other := strings.Cut(s, "@")
	w := strings.Fields(s)
	m := msg.Msg{Tid: tidOf(w[1]), To: me}
	m.Kind = map[string]int{"hello": msg.Hello, "do": msg.Do, "prepare": msg.Prepare, "commit": msg.Commit, "abort": msg.Abort}[w[0]]
	m.From = m.Tid.Node
	if m.Kind == msg.Do || m.Kind == msg.Prepare {
		m.N, m.Life = number(w[2]), d.s.Life()
	}
	if m.Kind == msg.Do {
		m.Op, m.Key = map[string]int{"get": msg.Get, "put": msg.Put, "drop": msg.Drop}[w[3]], w[4]
		m.Val = strings.Join(w[5:], " ")
	}
	if other {
		m.Life = uint64(number(strings.TrimSpace(life)))
	}
	return m
}

var codes = map[api.Errno]string{api.OK: "ok", api.ErrDied: "died", api.ErrGone: "gone", api.ErrFull: "full", api.ErrMany: "many", api.ErrDown: "down", api.ErrBad: "bad", api.ErrTorn: "torn"}

// outText is a message that goes out: "welcome 5 1" with its Life, "did 5 1 ok", "did 5 1 ok=v" of one that Has v, "did 5 1 gone", "vote 5 ok", "ack 5", "ask 5".
func outText(m msg.Msg) string {
	t := tidText(m.Tid)
	code := codes[m.Code]
	if m.Has {
		code += "=" + m.Val
	}
	switch m.Kind {
	case msg.Welcome:
		return fmt.Sprint("welcome ", t, " ", m.Life)
	case msg.Did:
		return fmt.Sprint("did ", t, " ", m.N, " ", code)
	case msg.Vote:
		return fmt.Sprint("vote ", t, " ", code)
	case msg.Ack:
		return "ack " + t
	case msg.Ask:
		return "ask " + t
	}
	return fmt.Sprint(m)
}

// out is what goes out, as text; each is a right message from this node, to that of its transaction.
func (d *desk) out() string {
	d.t.Helper()
	var texts []string
	for _, m := range d.p.Out() {
		if !m.Right() || m.From != me || m.To != m.Tid.Node {
			d.t.Error("goes out:", m)
		}
		texts = append(texts, outText(m))
	}
	return strings.Join(texts, "; ")
}

// takes lets messages come, each as "what comes > what goes out; and more".
func (d *desk) takes(rows ...string) {
	d.t.Helper()
	for _, row := range rows {
		in, out, _ := strings.Cut(row, ">")
		if err := d.p.Take(d.msgOf(in)); err != api.OK {
			d.t.Error(in, "is answered", err)
		}
		is(d.t, row, d.out(), strings.TrimSpace(out))
	}
}

// ticks lets some ticks go, and holds what goes out at each against texts.
func (d *desk) ticks(outs ...string) {
	d.t.Helper()
	for i, out := range outs {
		d.p.Tick()
		is(d.t, fmt.Sprint("tick ", i+1), d.out(), out)
	}
}

// openText is what is known, ! behind what is prepared.
func (d *desk) openText() string {
	var texts []string
	for _, t := range d.p.Open() {
		s := tidText(t)
		if d.p.Ready(t) {
			s += "!"
		}
		texts = append(texts, s)
	}
	return strings.Join(texts, " ")
}

func wantsText(list []lock.Want) string {
	var texts []string
	for _, w := range list {
		texts = append(texts, tidText(w.Tid)+map[lock.Mode]string{lock.Read: "r", lock.Write: "w"}[w.Mode])
	}
	return strings.Join(texts, "+")
}

// locksText is a table's keys that are letters: "k=5r+7r<3w" is had by 5 and 7, and waited for by 3.
func locksText(l *lock.Table) string {
	var texts []string
	for c := 'a'; c <= 'z'; c++ {
		k := string(c)
		has, waits := wantsText(l.Has(k)), wantsText(l.Waiting(k))
		if waits != "" {
			waits = "<" + waits
		}
		if has+waits != "" {
			texts = append(texts, k+"="+has+waits)
		}
	}
	if l.Len() != len(texts) {
		texts = append(texts, fmt.Sprint("of ", l.Len()))
	}
	return strings.Join(texts, " ")
}

// stands holds what is known, and the locks, against texts.
func (d *desk) stands(open, locks string) {
	d.t.Helper()
	is(d.t, "Open", d.openText(), open)
	is(d.t, "Locks", locksText(d.p.Locks()), locks)
}

func (d *desk) mapText() string {
	m, err := d.s.Map()
	if err != api.OK {
		return fmt.Sprint("error ", err)
	}
	var texts []string
	for _, p := range m {
		texts = append(texts, p.Key+"="+p.Val)
	}
	return strings.Join(texts, " ")
}

// has holds what is in the store against a text: also what isn't committed is there.
func (d *desk) has(want string) {
	d.t.Helper()
	is(d.t, "the store", d.mapText(), want)
}

// puts lets a key be there, committed, by a transaction of node 9 that is elder than those of a test, and tells nothing of it; the part is a new one.
func (d *desk) puts(pairs ...string) {
	d.t.Helper()
	for _, p := range pairs {
		k, v, _ := strings.Cut(p, "=")
		t := api.Tid{Node: 9}
		d.oks(d.s.Put(t, k, v), d.s.Prepare(t, nil), d.s.Commit(t))
	}
	d.renew()
}

// storeOpens is the transactions that are open in the store.
func (d *desk) storeOpens() string {
	var texts []string
	for _, o := range d.s.Opens() {
		s := tidText(o.Tid)
		if o.Ready {
			s += "!" + strings.Join(o.Reads, "+")
		}
		texts = append(texts, s)
	}
	return strings.Join(texts, " ")
}

// times is a list of one text, so many times.
func times(n int, s string) []string { return slices.Repeat([]string{s}, n) }
