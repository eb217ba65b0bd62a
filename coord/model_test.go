package coord

import (
	"fmt"
	"maps"
	"math/rand"
	"slices"
	"strings"
	"testing"

	"dockmaster/api"
)

// plainWork is what a model knows of a transaction under way.
type plainWork struct {
	life, done map[int]int
	can        map[int]bool
	asked      string // "put k v", or none
	to         int
	voted      bool
	said       int
}

// model is a plain coordinator, with a store that has room for all. Its transactions have small numbers, counted through all lives.
type model struct {
	life, begun, time int
	open              map[string]*plainWork
	dones             map[string][]int
	said              map[string]int
	out, told         []string
}

func newModel() *model {
	return &model{life: 1, open: map[string]*plainWork{}, dones: map[string][]int{}, said: map[string]int{}}
}

func (m *model) say(parts ...any)  { m.out = append(m.out, strings.TrimSpace(fmt.Sprintln(parts...))) }
func (m *model) tell(parts ...any) { m.told = append(m.told, "told "+fmt.Sprintln(parts...)) }

func sorted[V any](x map[int]V) []int { return slices.Sorted(maps.Keys(x)) }

// elders is names of transactions in order.
func elders[V any](x map[string]V) []string {
	return slices.SortedFunc(maps.Keys(x), func(a, b string) int { return int(tidOf(a).Num) - int(tidOf(b).Num) })
}

func (m *model) over(k string, w *plainWork, kind, code string) {
	for _, n := range sorted(w.done) {
		m.say(kind, k, n)
	}
	m.tell(k, code)
	delete(m.open, k)
}

// again says what a transaction waits for.
func (m *model) again(k string, w *plainWork) {
	w.said = m.time
	switch {
	case w.voted:
		for _, n := range sorted(w.done) {
			if !w.can[n] {
				m.say("prepare", k, n, w.life[n], w.done[n])
			}
		}
	case w.life[w.to] == 0:
		m.say("hello", k, w.to)
	default:
		m.say("do", k, w.to, w.life[w.to], w.done[w.to]+1, w.asked)
	}
}

// call makes a call; its error, if it isn't OK.
func (m *model) call(s string) string {
	f := strings.Fields(s)
	switch f[0] {
	case "begin":
		m.begun++
		m.open[tidText(api.Tid{Num: uint64(m.life*PerLife + m.begun), Node: me})] = &plainWork{life: map[int]int{}, done: map[int]int{}, can: map[int]bool{}}
		return ""
	case "tick":
		m.tick()
		return ""
	}
	k, w := f[1], m.open[f[1]]
	switch f[0] {
	case "do", "commit", "abort":
		if w == nil {
			return "!none"
		}
		if w.asked != "" || w.voted {
			return "!turn"
		}
	default:
		m.take(k, w, number(f[2]), f)
		return ""
	}
	switch {
	case f[0] == "abort":
		m.over(k, w, "abort", "ok")
	case f[0] == "do":
		w.to, w.asked = number(f[2]), strings.Join(f[3:], " ")
		w.done[w.to] += 0
		m.again(k, w)
	case len(w.done) == 0:
		m.over(k, w, "", "ok")
	default:
		w.voted = true
		m.again(k, w)
	}
	return ""
}

func (m *model) take(k string, w *plainWork, from int, f []string) {
	asked := w != nil && w.asked != "" && w.to == from
	switch f[0] {
	case "welcome":
		if life := number(f[3]); asked && w.life[from] == 0 && life > 0 {
			w.life[from] = life
			m.again(k, w)
		}
	case "did":
		if asked && w.life[from] > 0 && number(f[3]) == w.done[from]+1 {
			m.did(k, w, from, f[4])
		}
	case "vote":
		if w == nil || !w.voted || w.life[from] == 0 {
			return
		}
		m.vote(k, w, from, f[3])
	case "ack":
		m.dones[k] = slices.DeleteFunc(m.dones[k], func(n int) bool { return n == from })
		if len(m.dones[k]) == 0 {
			delete(m.dones, k)
		}
	case "ask":
		if w == nil {
			kind := "abort"
			if m.dones[k] != nil {
				kind = "commit"
			}
			m.say(kind, k, from)
		}
	}
}

func (m *model) did(k string, w *plainWork, from int, code string) {
	if !strings.HasPrefix(code, "ok") {
		m.over(k, w, "abort", strings.Replace(code, "gone", "abort", 1))
		return
	}
	w.done[from]++
	w.asked = ""
	m.tell(k, code)
}

func (m *model) vote(k string, w *plainWork, from int, code string) {
	if code != "ok" {
		m.over(k, w, "abort", strings.Replace(code, "gone", "abort", 1))
		return
	}
	w.can[from] = true
	if len(w.can) == len(w.done) {
		m.dones[k], m.said[k] = sorted(w.done), m.time
		m.over(k, w, "commit", "ok")
	}
}

func (m *model) tick() {
	m.time++
	for _, k := range elders(m.open) {
		if w := m.open[k]; (w.voted || w.asked != "") && w.said+Pause == m.time {
			m.again(k, w)
		}
	}
	for _, k := range elders(m.dones) {
		if m.said[k]+Pause == m.time {
			m.said[k] = m.time
			for _, n := range m.dones[k] {
				m.say("commit", k, n)
			}
		}
	}
}

func (m *model) lose() {
	m.life++
	m.begun, m.time, m.open = 0, 0, map[string]*plainWork{}
	for k := range m.dones {
		m.said[k] = 1 - Pause
	}
}

// text is what has gone out and was told since, and how all stands.
func (m *model) text(err string) string {
	var open, dones []string
	for _, k := range elders(m.open) {
		if w := m.open[k]; w.voted || w.asked != "" {
			k += "?"
		}
		open = append(open, k)
	}
	for _, k := range elders(m.dones) {
		dones = append(dones, k+":"+strings.ReplaceAll(strings.Trim(fmt.Sprint(m.dones[k]), "[]"), " ", "+"))
	}
	news := append(m.out, m.told...)
	for i := range news {
		news[i] = strings.TrimSpace(news[i])
	}
	m.out, m.told = nil, nil
	return fmt.Sprintf("%s%s\n%s\n%s", err, strings.Join(news, "; "), strings.Join(open, " "), strings.Join(dones, " "))
}

// anyTid is mostly a transaction of which something is known.
func (m *model) anyTid(r *rand.Rand) string {
	list := elders(m.open)
	if r.Intn(4) == 0 {
		list = elders(m.dones)
	}
	if len(list) == 0 || r.Intn(12) == 0 {
		return fmt.Sprint(1 + r.Intn(9))
	}
	return list[r.Intn(len(list))]
}

// anyCall is mostly one that goes on with what is known.
func (m *model) anyCall(r *rand.Rand) string {
	k := m.anyTid(r)
	w, node := m.open[k], r.Intn(4)
	n := 1 + r.Intn(3)
	code := []string{"ok", "ok=v", "ok=", "ok", "ok", "ok", "ok", "ok", "gone", "died"}[r.Intn(10)]
	if w != nil && w.asked != "" && r.Intn(6) > 0 {
		node, n = w.to, w.done[w.to]+1
		return []string{fmt.Sprint("welcome ", k, " ", node, " ", r.Intn(3)), fmt.Sprint("did ", k, " ", node, " ", n, " ", code)}[r.Intn(2)]
	}
	vote, _, _ := strings.Cut(code, "=")
	if w != nil && w.voted && r.Intn(3) > 0 {
		return fmt.Sprint("vote ", k, " ", node, " ", vote)
	}
	switch r.Intn(20) {
	case 0, 1, 2:
		return "begin"
	case 3, 4, 5, 6, 7, 8:
		return fmt.Sprint("do ", k, " ", node, " ", []string{"get a", "put b x", "drop c", "put d"}[r.Intn(4)])
	case 9, 10:
		return "commit " + k
	case 11:
		return "abort " + k
	case 12:
		return fmt.Sprint("welcome ", k, " ", node, " ", r.Intn(3))
	case 13:
		return fmt.Sprint("did ", k, " ", node, " ", n, " ", code)
	case 14:
		return fmt.Sprint("vote ", k, " ", node, " ", vote)
	case 15, 16:
		return fmt.Sprint("ack ", k, " ", node)
	case 17:
		return fmt.Sprint("ask ", k, " ", node)
	}
	return "tick"
}

// P18.1 to P18.5: seeded random calls, messages, ticks and losses of power, held against a plain model.
func TestModel(t *testing.T) {
	in := map[string]int{}
	for seed := range int64(80) {
		r := rand.New(rand.NewSource(seed))
		d, m := newDesk(t), newModel()
		var calls []string
		for range 300 {
			s := m.anyCall(r)
			err := ""
			if r.Intn(150) == 0 {
				s = "loss"
				d.oks(d.s.Check())
				d.lose()
				m.lose()
			} else {
				if e := d.call(s); e != api.OK {
					err = "!" + codeText(e)
				}
				is(t, s, err, m.call(s))
			}
			calls = append(calls, s)
			in[strings.Fields(s)[0]]++
			got := fmt.Sprintf("%s%s\n%s\n%s", err, d.news(), d.openText(), d.donesText())
			if want := m.text(err); got != want {
				t.Fatalf("seed %d, behind %s:\n%s\nwant\n%s", seed, strings.Join(calls[max(0, len(calls)-6):], "\n"), got, want)
			}
			in["decided"] += len(m.dones)
		}
	}
	if in["decided"] < 1000 || in["loss"] < 50 {
		t.Error(in)
	}
}
