// Package key is layer 2: see shared/doc/02-key.md.
package key

import (
	"slices"
	"sort"

	"dockmaster/api"
)

const (
	hashBegin = 14695981039346656037
	hashTimes = 1099511628211
	homeShift = 20
)

// Right is why a key can't be one, Value the same of what stands under it.
func Right(k string) api.Errno {
	switch {
	case len(k) == 0:
		return api.ErrArg
	case len(k) > api.MaxKey:
		return api.ErrKey
	}
	return api.OK
}

// Value is why a text can't stand under a key.
func Value(v string) api.Errno {
	if len(v) > api.MaxVal {
		return api.ErrKey
	}
	return api.OK
}

// Hash is a number of a key: each byte is laid over the one so far by exclusive or, and that times a prime.
func Hash(k string) uint64 {
	h := uint64(hashBegin)
	// By places, as a range over the text itself would go by runes, not bytes.
	for i := range len(k) {
		h = (h ^ uint64(k[i])) * hashTimes
	}
	return h
}

// Home is the node, of so many, where a key is kept.
func Home(k string, nodes int) int {
	of := min(max(nodes, 1), api.MaxNodes)
	return int((Hash(k) >> homeShift) % uint64(of))
}

// Map is keys, and what stands under them, in order: lists that aren't turned.
type Map []api.Pair

// Get is what stands under a key.
func (m Map) Get(k string) (string, bool) {
	at, has := m.find(k)
	if !has {
		return "", false
	}
	return m[at].Val, true
}

// With is the same with something under a key.
func (m Map) With(k, v string) Map {
	ahead, behind := m.around(k)
	out := make(Map, 0, len(ahead)+1+len(behind))
	out = append(out, ahead...)
	out = append(out, api.Pair{Key: k, Val: v})
	return append(out, behind...)
}

// Without is the same without a key.
func (m Map) Without(k string) Map {
	ahead, behind := m.around(k)
	out := make(Map, 0, len(ahead)+len(behind))
	out = append(out, ahead...)
	return append(out, behind...)
}

// Same tells whether two have the same.
func (m Map) Same(o Map) bool {
	return slices.Equal(m, o)
}

// find is where a key stands, or would, and whether it does.
func (m Map) find(k string) (int, bool) {
	at := sort.Search(len(m), func(i int) bool { return m[i].Key >= k })
	return at, at < len(m) && m[at].Key == k
}

// around is what stands ahead of a key, and what behind it.
func (m Map) around(k string) (Map, Map) {
	at, has := m.find(k)
	if has {
		return m[:at], m[at+1:]
	}
	return m[:at], m[at:]
}
