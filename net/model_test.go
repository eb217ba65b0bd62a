package net

import (
	"math/rand"
	"slices"
	"testing"

	"dockmaster/api"
)

// plainLetter is one of a model's letters: a text can't be turned.
type plainLetter struct {
	to   int
	text string
}

// model is a plain net.
type model []plainLetter

func (m *model) send(to int, s string) api.Errno {
	if to < 0 || to > 63 || len(s) > 200 {
		return api.ErrArg
	}
	if len(*m) == 2000 {
		return api.ErrMany
	}
	*m = append(*m, plainLetter{to, s})
	return api.OK
}

func (m *model) has(at int) bool { return at >= 0 && at < len(*m) }

func (m *model) take(at int) (plainLetter, bool) {
	if !m.has(at) {
		return plainLetter{}, false
	}
	l := (*m)[at]
	*m = slices.Delete(slices.Clone(*m), at, at+1)
	return l, true
}

func (m *model) twice(at int) api.Errno {
	if !m.has(at) {
		return api.ErrNone
	}
	return m.send((*m)[at].to, (*m)[at].text)
}

func (m *model) spoil(at, i int, bits byte) api.Errno {
	if !m.has(at) || i < 0 || i >= len((*m)[at].text) {
		return api.ErrNone
	}
	b := []byte((*m)[at].text)
	b[i] ^= bits
	(*m)[at].text = string(b)
	return api.OK
}

// same holds a letter that was told against a model's one.
func same(l Letter, ok bool, want plainLetter, has bool) bool {
	return ok == has && l.To == want.to && string(l.B) == want.text
}

// steps makes one call of both, of any kind, and tells whether they answer the same; what was handed in or out is turned then.
func steps(rnd *rand.Rand, n *Net, m *model) bool {
	at, i, bits := rnd.Intn(len(*m)+3)-1, rnd.Intn(6)-1, byte(rnd.Intn(256))
	switch rnd.Intn(6) {
	case 0, 1:
		b := make([]byte, rnd.Intn(5))
		if rnd.Intn(20) == 0 {
			b = make([]byte, 199+rnd.Intn(4))
		}
		rnd.Read(b)
		to, s := rnd.Intn(67)-1, string(b)
		err := n.Send(to, b)
		clear(b)
		return err == m.send(to, s)
	case 2:
		l, ok := n.Take(at)
		want, has := m.take(at)
		is := same(l, ok, want, has)
		clear(l.B)
		return is
	case 3:
		return n.Twice(at) == m.twice(at)
	case 4:
		return n.Spoil(at, i, bits) == m.spoil(at, i, bits)
	}
	l, ok := n.At(at)
	want := plainLetter{}
	if m.has(at) {
		want = (*m)[at]
	}
	is := same(l, ok, want, m.has(at))
	clear(l.B)
	return is
}

// alike tells whether both have the same letters on their way.
func alike(n *Net, m *model) bool {
	if n.Len() != len(*m) {
		return false
	}
	for at, want := range *m {
		if l, ok := n.At(at); !same(l, ok, want, true) {
			return false
		}
	}
	return true
}

// P16.1: calls of all kinds at random, in nets from none to as many letters as there may be, held against a plain model.
func TestModel(t *testing.T) {
	for seed := range int64(60) {
		rnd := rand.New(rand.NewSource(seed))
		n, m := &Net{}, &model{}
		if seed%3 == 0 {
			for range 1990 {
				n.Send(1, []byte("ab"))
				m.send(1, "ab")
			}
		}
		for step := range 200 {
			if !steps(rnd, n, m) {
				t.Fatal("seed", seed, "step", step, "another answer")
			}
			if !alike(n, m) {
				t.Fatal("seed", seed, "step", step, "other letters")
			}
		}
	}
}
