package lock

import (
	"fmt"
	"maps"
	"math/rand"
	"slices"
	"strings"
	"testing"

	"dockmaster/api"
)

// model is a table told plainly: of each key who has it, in any order, and who waits.
type model map[string]*side

type side struct {
	has   map[api.Tid]Mode
	waits []Want
}

func (m model) side(k string) *side {
	if m[k] == nil {
		m[k] = &side{has: map[api.Tid]Mode{}}
	}
	return m[k]
}

func clash(a, b Mode) bool { return a == Write || b == Write }

// ask goes by the words of P12.1, one by one.
func (m model) ask(t api.Tid, k string, mode Mode) Answer {
	s := m.side(k)
	defer m.tidy(k)
	if s.has[t] >= mode {
		return Granted
	}
	for _, w := range s.waits {
		if w.Tid == t {
			return Waits
		}
	}
	place := len(s.waits)
	if s.has[t] == Read {
		place = 0
		for place < len(s.waits) && s.has[s.waits[place].Tid] > 0 {
			place++
		}
	}
	for _, w := range s.waits[place:] {
		if clash(w.Mode, mode) && !w.Tid.Elder(t) {
			return Dies
		}
	}
	keeps := map[api.Tid]bool{}
	for u, has := range s.has {
		if u != t && clash(has, mode) {
			keeps[u] = true
		}
	}
	for _, w := range s.waits[:place] {
		if clash(w.Mode, mode) {
			keeps[w.Tid] = true
		}
	}
	for u := range keeps {
		if !t.Elder(u) {
			return Dies
		}
	}
	if len(keeps) > 0 {
		s.waits = slices.Concat(s.waits[:place], []Want{{t, mode}}, s.waits[place:])
		return Waits
	}
	s.has[t] = mode
	return Granted
}

func (m model) free(t api.Tid) []Grant {
	var out []Grant
	for _, k := range slices.Sorted(maps.Keys(m)) {
		s := m[k]
		_, had := s.has[t]
		rest := []Want{}
		for _, w := range s.waits {
			if w.Tid != t {
				rest = append(rest, w)
			}
		}
		if !had && len(rest) == len(s.waits) {
			continue
		}
		delete(s.has, t)
		s.waits = rest
		for len(s.waits) > 0 && s.lets(s.waits[0]) {
			w := s.waits[0]
			s.has[w.Tid], s.waits = w.Mode, s.waits[1:]
			out = append(out, Grant{w.Tid, k, w.Mode})
		}
		m.tidy(k)
	}
	return out
}

func (s *side) lets(w Want) bool {
	for u, has := range s.has {
		if u != w.Tid && clash(has, w.Mode) {
			return false
		}
	}
	return true
}

func (m model) tidy(k string) {
	if len(m[k].has)+len(m[k].waits) == 0 {
		delete(m, k)
	}
}

func (m model) has(k string) []Want {
	var out []Want
	if s := m[k]; s != nil {
		for t, mode := range s.has {
			out = append(out, Want{t, mode})
		}
	}
	slices.SortFunc(out, func(a, b Want) int {
		if a.Tid.Elder(b.Tid) {
			return -1
		}
		return 1
	})
	return out
}

func (m model) waiting(k string) []Want {
	if m[k] == nil {
		return nil
	}
	return m[k].waits
}

func (m model) keys(t api.Tid) []string {
	var out []string
	for k, s := range m {
		if s.has[t] > 0 {
			out = append(out, k)
		}
	}
	slices.Sort(out)
	return out
}

// same holds all that a table tells against a model, and looks at P12.3.
func (d desk) same(m model, keys []string, tids []api.Tid) {
	d.t.Helper()
	for _, k := range keys {
		d.stands(k, wantsText(m.has(k)), wantsText(m.waiting(k)))
	}
	for _, t := range tids {
		d.keys(tidText(t), strings.Join(m.keys(t), " "))
	}
	d.len(len(m))
	d.endless(keys)
	d.asked()
}

// asked tells whether the table keeps of each transaction the keys that it has or waits for, and no more: else it would grow.
func (d desk) asked() {
	d.t.Helper()
	want := map[api.Tid]map[string]struct{}{}
	for k, q := range d.l.lines {
		for _, w := range slices.Concat(q.has, q.waits) {
			if want[w.Tid] == nil {
				want[w.Tid] = map[string]struct{}{}
			}
			want[w.Tid][k] = struct{}{}
		}
	}
	if !maps.EqualFunc(d.l.asked, want, maps.Equal) {
		d.t.Error("kept:", d.l.asked, "want", want)
	}
}

// endless tells of transactions that wait for each other round and round: those that wait for nobody are let go, till none is left.
func (d desk) endless(keys []string) {
	d.t.Helper()
	waits := map[api.Tid]map[api.Tid]bool{}
	for _, k := range keys {
		has, line := d.l.Has(k), d.l.Waiting(k)
		for i, w := range line {
			for _, o := range slices.Concat(has, line[:i]) {
				if o.Tid == w.Tid || !clash(o.Mode, w.Mode) {
					continue
				}
				if waits[w.Tid] == nil {
					waits[w.Tid] = map[api.Tid]bool{}
				}
				waits[w.Tid][o.Tid] = true
			}
		}
	}
	for len(waits) > 0 {
		before := len(waits)
		for t, of := range waits {
			maps.DeleteFunc(of, func(o api.Tid, _ bool) bool { return waits[o] == nil })
			if len(of) == 0 {
				delete(waits, t)
			}
		}
		if len(waits) == before {
			d.t.Error("they wait round and round", waits)
			return
		}
	}
}

// step is a call: of Ask, or, without a mode, of Free.
type step struct {
	t api.Tid
	k string
	m Mode
}

func (d desk) do(m model, s step) {
	d.t.Helper()
	if s.m == 0 {
		if got, want := grantsText(d.l.Free(s.t)), grantsText(m.free(s.t)); got != want {
			d.t.Errorf("Free(%v): %q, want %q", s.t, got, want)
		}
		return
	}
	if got, want := d.l.Ask(s.t, s.k, s.m), m.ask(s.t, s.k, s.m); got != want {
		d.t.Errorf("Ask(%v): %d, want %d", s, got, want)
	}
}

// P12.1 to P12.3: all that four transactions can do with a key, from each way in which it can stand.
func TestAllStates(t *testing.T) {
	var tids []api.Tid
	var steps []step
	for _, s := range []string{"1", "2.1", "2.2", "3"} {
		tid := tidOf(s)
		tids = append(tids, tid)
		steps = append(steps, step{tid, "k", Read}, step{tid, "k", Write}, step{tid, "k", 0})
	}
	seen := map[string]bool{"": true}
	for work := [][]step{nil}; len(work) > 0; work = work[1:] {
		for _, s := range steps {
			d, m := newDesk(t), model{}
			for _, before := range work[0] {
				d.do(m, before)
			}
			d.do(m, s)
			d.same(m, []string{"k"}, tids)
			if t.Failed() {
				t.Fatal("behind", work[0], "came", s)
			}
			state := fmt.Sprint(wantsText(d.l.Has("k")), "/", wantsText(d.l.Waiting("k")))
			if !seen[state] {
				seen[state] = true
				work = append(work, append(slices.Clone(work[0]), s))
			}
		}
	}
	if len(seen) < 100 {
		t.Error("states", len(seen))
	}
}

// P12.1 to P12.3: many calls in other orders, of many transactions and keys, held against the model behind each.
func TestRandom(t *testing.T) {
	for seed := range int64(150) {
		r := rand.New(rand.NewSource(seed))
		var tids []api.Tid
		for i := range 2 + r.Intn(12) {
			tids = append(tids, api.Tid{Num: uint64(i / 2), Node: i % 2})
		}
		keys := []string{"a", "b", "", "ab", "\xff"}[:1+r.Intn(5)]
		d, m := newDesk(t), model{}
		for n := range 400 {
			s := step{tids[r.Intn(len(tids))], keys[r.Intn(len(keys))], Read + Mode(r.Intn(2))}
			if r.Intn(6) == 0 {
				s.m = 0
			}
			d.do(m, s)
			d.same(m, keys, tids)
			if t.Failed() {
				t.Fatal("seed", seed, "step", n, s)
			}
		}
		for _, tid := range tids {
			d.do(m, step{t: tid})
			d.same(m, keys, tids)
		}
		d.len(0)
	}
}
