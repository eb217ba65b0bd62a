package part

import (
	"fmt"
	"maps"
	"math/rand"
	"slices"
	"strings"
	"testing"

	"dockmaster/age"
	"dockmaster/api"
	"dockmaster/lock"
	"dockmaster/msg"
)

// plainWork is what a model knows of a transaction.
type plainWork struct {
	done   int
	answer string
	waits  string // the key
	wait   msg.Msg
	ready  bool
	asked  int
	was    []plainWas
}

// plainWas is how a key was ahead of an update.
type plainWas struct{ key, val string }

// model is a plain part, with a store that has room for all: what isn't there is no text.
type model struct {
	life  uint64
	time  int
	vals  map[string]string
	known map[api.Tid]*plainWork
	over  map[api.Tid]bool
	locks *lock.Table
	out   []string
}

func newModel() *model {
	return &model{life: 1, vals: map[string]string{}, known: map[api.Tid]*plainWork{}, over: map[api.Tid]bool{}, locks: lock.New()}
}

func (m *model) say(parts ...any) { m.out = append(m.out, strings.TrimSpace(fmt.Sprintln(parts...))) }

func (m *model) take(x msg.Msg) {
	t, w := tidText(x.Tid), m.known[x.Tid]
	switch x.Kind {
	case msg.Hello:
		m.say("welcome", t, m.life)
	case msg.Do:
		m.do(x, t, w)
	case msg.Prepare:
		if w == nil {
			m.say("vote", t, "gone")
		} else if w.ready {
			m.say("vote", t, "ok")
		} else if x.Life != m.life || w.waits != "" || x.N != w.done {
			m.say("vote", t, "gone")
			m.undo(x.Tid)
		} else {
			m.say("vote", t, "ok")
			w.ready = true
		}
	case msg.Commit:
		if w != nil && !w.ready {
			return
		}
		if w != nil {
			m.end(x.Tid)
		}
		m.say("ack", t)
	case msg.Abort:
		if w != nil {
			m.undo(x.Tid)
		}
		m.over[x.Tid] = true
	}
}

func (m *model) do(x msg.Msg, t string, w *plainWork) {
	if w != nil && w.ready {
		return
	}
	if x.Life != m.life || m.over[x.Tid] || w == nil && x.N != 1 {
		m.say("did", t, x.N, "gone")
		return
	}
	if w == nil {
		w = &plainWork{asked: m.time}
		m.known[x.Tid] = w
	}
	if w.waits != "" {
		return
	}
	if x.N == w.done && x.N > 0 {
		m.say(w.answer)
	}
	if x.N != w.done+1 {
		return
	}
	mode := lock.Write
	if x.Op == msg.Get {
		mode = lock.Read
	}
	switch m.locks.Ask(x.Tid, x.Key, mode) {
	case lock.Granted:
		m.turn(x)
	case lock.Waits:
		w.waits, w.wait = x.Key, x
	case lock.Dies:
		m.say("did", t, x.N, "died")
		m.undo(x.Tid)
	}
}

func (m *model) turn(x msg.Msg) {
	w := m.known[x.Tid]
	w.waits, w.done, w.answer = "", x.N, fmt.Sprint("did ", tidText(x.Tid), " ", x.N, " ok")
	v, has := m.vals[x.Key]
	if x.Op == msg.Get && has {
		w.answer += "=" + v
	}
	if x.Op != msg.Get {
		if !has {
			v = "none"
		}
		w.was = append(w.was, plainWas{x.Key, v})
	}
	switch x.Op {
	case msg.Put:
		m.vals[x.Key] = x.Val
	case msg.Drop:
		delete(m.vals, x.Key)
	}
	m.say(w.answer)
}

// goBack lets keys be as they were.
func (m *model) goBack(w *plainWork) {
	for _, u := range slices.Backward(w.was) {
		m.vals[u.key] = u.val
		if u.val == "none" {
			delete(m.vals, u.key)
		}
	}
}

func (m *model) undo(t api.Tid) {
	m.goBack(m.known[t])
	m.end(t)
}

// end needs no order but that of the locks: what waits never fails here.
func (m *model) end(t api.Tid) {
	delete(m.known, t)
	m.over[t] = true
	for _, g := range m.locks.Free(t) {
		if w := m.known[g.Tid]; w != nil && w.waits == g.Key {
			m.turn(w.wait)
		}
	}
}

func (m *model) open() []api.Tid {
	return age.Keys(m.known)
}

func (m *model) tick() {
	m.time++
	for _, t := range m.open() {
		if w := m.known[t]; m.time-w.asked >= 4 {
			w.asked = m.time
			m.say("ask", tidText(t))
		}
	}
}

// lose lets what isn't prepared never have been, and all that is locked be what was.
func (m *model) lose() {
	locks := lock.New()
	for _, t := range m.open() {
		w := m.known[t]
		if !w.ready {
			m.goBack(w)
			delete(m.known, t)
			continue
		}
		for _, k := range m.locks.Keys(t) {
			mode := lock.Read
			if slices.Contains(m.locks.Has(k), lock.Want{Tid: t, Mode: lock.Write}) {
				mode = lock.Write
			}
			locks.Ask(t, k, mode)
		}
		*w = plainWork{ready: true, was: w.was, asked: 0}
	}
	m.life, m.time, m.locks, m.over = m.life+1, 0, locks, map[api.Tid]bool{}
}

func (m *model) text() string {
	var open, vals []string
	for _, t := range m.open() {
		open = append(open, tidText(t)+map[bool]string{true: "!"}[m.known[t].ready])
	}
	for _, k := range slices.Sorted(maps.Keys(m.vals)) {
		vals = append(vals, k+"="+m.vals[k])
	}
	return fmt.Sprintf("%s\n%s\n%s\n%s", strings.Join(m.out, "; "), strings.Join(open, " "), locksText(m.locks), strings.Join(vals, " "))
}

// anyMsg is a message of few transactions and few keys; mostly one that goes on with what is known.
func (m *model) anyMsg(r *rand.Rand) msg.Msg {
	x := msg.Msg{Tid: api.Tid{Num: uint64(r.Intn(12)), Node: r.Intn(3)}, To: me}
	x.From = x.Tid.Node
	done, life := 0, m.life
	if w := m.known[x.Tid]; w != nil {
		done = w.done
	}
	if r.Intn(25) == 0 {
		life = uint64(r.Intn(4))
	}
	n := done + 1
	if r.Intn(8) == 0 {
		n = r.Intn(4)
	}
	switch i := r.Intn(24); {
	case i == 0:
		x.Kind = msg.Hello
	case i < 17:
		x.Kind, x.N, x.Life = msg.Do, n, life
		x.Op, x.Key = 1+r.Intn(3), string(rune('a'+r.Intn(8)))
		if x.Op == msg.Put {
			x.Val = fmt.Sprint(r.Intn(100))
		}
	case i < 20:
		x.Kind, x.N, x.Life = msg.Prepare, max(n-1, 0), life
	case i < 22:
		x.Kind = msg.Commit
	default:
		x.Kind = msg.Abort
	}
	return x
}

// P17.1 to P17.5: seeded random messages, ticks and losses of power, held against a plain model.
func TestModel(t *testing.T) {
	for seed := range int64(60) {
		r := rand.New(rand.NewSource(seed))
		d, m := newDesk(t), newModel()
		var calls []string
		for range 250 {
			switch i := r.Intn(100); {
			case i == 0:
				calls = append(calls, "loss")
				d.lose()
				m.lose()
			case i < 12:
				calls = append(calls, "tick")
				d.p.Tick()
				m.tick()
			default:
				x := m.anyMsg(r)
				calls = append(calls, fmt.Sprint(x))
				d.oks(d.p.Take(x))
				m.take(x)
			}
			got := fmt.Sprintf("%s\n%s\n%s\n%s", d.out(), d.openText(), locksText(d.p.Locks()), d.mapText())
			if want := m.text(); got != want {
				t.Fatalf("seed %d, behind %s:\n%s\nwant\n%s", seed, strings.Join(calls[max(0, len(calls)-6):], "\n"), got, want)
			}
			m.out = nil
		}
	}
}
