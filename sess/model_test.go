package sess

import (
	"fmt"
	"math/rand"
	"strings"
	"testing"
)

// plain is what a model knows of a session.
type plain struct {
	req    int
	busy   bool
	answer string
	tid    string // none, if it has no transaction
}

func (p *plain) say(n int, code string) string {
	tid := p.tid
	if tid == "" {
		tid = "0"
	}
	p.busy, p.answer = false, fmt.Sprintf("%d.%d %s of %s", n, p.req, code, tid)
	return p.answer
}

// model is a plain table of few sessions.
type model struct {
	sessions [5]*plain
	owners   map[string]int
}

func (m *model) does(s string) string {
	w := strings.Fields(s)
	switch w[0] {
	case "open":
		p := m.sessions[number(w[1])]
		if p == nil || !p.busy || p.tid != "" {
			return "no"
		}
		p.tid, m.owners[w[2]] = w[2], number(w[1])
		return p.say(number(w[1]), "ok")
	case "fail":
		if p := m.sessions[number(w[1])]; p != nil && p.busy {
			return p.say(number(w[1]), w[2])
		}
		return "no"
	case "told", "over":
		n, has := m.owners[w[1]]
		if !has || !m.sessions[n].busy {
			return "no"
		}
		text := m.sessions[n].say(n, w[2])
		if w[0] == "over" {
			m.sessions[n].tid = ""
			delete(m.owners, w[1])
		}
		return text
	}
	return m.take(w[0], w[1])
}

func (m *model) take(number, kind string) string {
	c := callOf(number + " " + kind)
	p := m.sessions[c.Sess]
	if p == nil && c.Req != 1 || p != nil && c.Req != p.req && (p.busy || c.Req != p.req+1) {
		return "said " + number + " session of 0"
	}
	if p == nil {
		p = &plain{}
		m.sessions[c.Sess] = p
	}
	if p.req == c.Req {
		if p.busy {
			return "waits"
		}
		return "said " + p.answer
	}
	p.req, p.busy = c.Req, true
	switch {
	case kind == "none":
		return "said " + p.say(c.Sess, "arg")
	case (kind == "begin") != (p.tid == ""):
		return "said " + p.say(c.Sess, "turn")
	case p.tid == "":
		return "start 0"
	}
	return "start " + p.tid
}

func (m *model) busy() string {
	var texts []string
	for n, p := range m.sessions {
		if p != nil && p.busy {
			was := *p
			texts = append(texts, was.say(n, "unknown"))
		}
	}
	return strings.Join(texts, "; ")
}

// anyCall is of few sessions and few transactions; mostly one that goes on with what there is.
func (m *model) anyCall(r *rand.Rand) string {
	n, tid := r.Intn(len(m.sessions)), fmt.Sprint(r.Intn(5))
	code := []string{"ok", "ok=v", "ok=", "died", "full"}[r.Intn(5)]
	req := 1
	if p := m.sessions[n]; p != nil {
		req = p.req + 1 - r.Intn(2)
		if p.tid != "" && r.Intn(4) > 0 {
			tid = p.tid
		}
	}
	if r.Intn(8) == 0 {
		req = r.Intn(20)
	}
	switch r.Intn(16) {
	case 0, 1:
		return fmt.Sprintf("open %d %s", n, tid)
	case 2:
		return fmt.Sprintf("fail %d full", n)
	case 3, 4, 5, 6:
		return fmt.Sprintf("told %s %s", tid, code)
	case 7:
		return fmt.Sprintf("over %s %s", tid, code)
	}
	kind := []string{"begin", "begin", "begin", "get k", "put k v", "drop k", "commit", "abort", "none"}[r.Intn(9)]
	return fmt.Sprintf("%d.%d %s", n, req, kind)
}

// P19.1, P19.2: seeded random calls, held against a plain model.
func TestModel(t *testing.T) {
	in := map[string]int{}
	for seed := range int64(200) {
		r := rand.New(rand.NewSource(seed))
		d, m := newDesk(t), &model{owners: map[string]int{}}
		var calls []string
		for range 300 {
			s := m.anyCall(r)
			calls = append(calls, s)
			got, want := d.does(s)+"\n"+d.busyText(), m.does(s)+"\n"+m.busy()
			if got != want {
				t.Fatalf("seed %d, behind %s:\n%s\nwant\n%s", seed, strings.Join(calls[max(0, len(calls)-6):], "\n"), got, want)
			}
			word := strings.Fields(s)[0]
			if strings.Contains(word, ".") {
				word = "take"
			}
			in[word+" "+strings.Fields(want)[0]]++
		}
	}
	for _, s := range []string{"take said", "take waits", "take start", "open no", "told no"} {
		if in[s] < 100 {
			t.Error(s, in)
		}
	}
}
