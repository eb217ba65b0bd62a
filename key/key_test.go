package key

import (
	"hash/fnv"
	"maps"
	"math"
	"slices"
	"strings"
	"testing"

	"dockmaster/api"
)

// P2.1: keys by how many bytes they have; runes don't count.
func TestRight(t *testing.T) {
	for k, want := range map[string]api.Errno{
		"":                            api.ErrArg,
		"a":                           api.OK,
		"\x00":                        api.OK,
		"\xff\xfe":                    api.OK,
		strings.Repeat("k", 24):       api.OK,
		strings.Repeat("k", 25):       api.ErrKey,
		strings.Repeat("é", 12):       api.OK,
		strings.Repeat("é", 12) + "k": api.ErrKey,
		strings.Repeat("k", 1<<16):    api.ErrKey,
	} {
		if got := Right(k); got != want {
			t.Errorf("Right of %d bytes, %.30q: %v, want %v", len(k), k, got, want)
		}
	}
}

// P2.1: values by how many bytes they have; one of none is right.
func TestValue(t *testing.T) {
	for v, want := range map[string]api.Errno{
		"":                            api.OK,
		"\x00":                        api.OK,
		strings.Repeat("v", 48):       api.OK,
		strings.Repeat("v", 49):       api.ErrKey,
		strings.Repeat("é", 24):       api.OK,
		strings.Repeat("é", 24) + "v": api.ErrKey,
		strings.Repeat("v", 1<<16):    api.ErrKey,
	} {
		if got := Value(v); got != want {
			t.Errorf("Value of %d bytes, %.30q: %v, want %v", len(v), v, got, want)
		}
	}
}

// someKeys is texts of many lengths and bytes, some of which aren't right keys.
func someKeys() []string {
	all := []string{"", "a", "b", "ab", "ba", "é", "\x00", "\x00\x00", "\xff", "\x80a", strings.Repeat("k", 25)}
	for i := range 256 {
		all = append(all, string([]byte{'k', byte(i), byte(i * 7)}))
	}
	return all
}

// P2.1: the examples, and another program's numbers.
func TestHash(t *testing.T) {
	if h := Hash("a"); h != 0xaf63dc4c8601ec8c {
		t.Errorf("Hash(a): %x", h)
	}
	if h := Hash(""); h != 0xcbf29ce484222325 {
		t.Errorf("Hash of nothing: %x", h)
	}
	for _, k := range someKeys() {
		f := fnv.New64a()
		f.Write([]byte(k))
		if h := Hash(k); h != f.Sum64() {
			t.Errorf("Hash(%q): %x, want %x", k, h, f.Sum64())
		}
	}
}

// P2.1: a key's home, of all counts of nodes that there may be.
func TestHome(t *testing.T) {
	if got := Home("a", 10); got != 0xaf63dc4c860%10 {
		t.Error("Home(a, 10)", got)
	}
	for _, k := range someKeys() {
		for nodes := 1; nodes <= api.MaxNodes; nodes++ {
			if got, want := Home(k, nodes), int(Hash(k)/(1<<20)%uint64(nodes)); got != want {
				t.Fatalf("Home(%q, %d): %d, want %d", k, nodes, got, want)
			}
		}
	}
}

// P2.1: counts of nodes that there may not be count as the nearest.
func TestHomeOfWrongCounts(t *testing.T) {
	for _, k := range someKeys() {
		for _, few := range []int{0, -1, -64, math.MinInt} {
			if got := Home(k, few); got != 0 {
				t.Fatalf("Home(%q, %d): %d", k, few, got)
			}
		}
		for _, many := range []int{65, 100, 128, math.MaxInt} {
			if got, want := Home(k, many), Home(k, 64); got != want {
				t.Fatalf("Home(%q, %d): %d, want %d", k, many, got, want)
			}
		}
	}
}

// wantMap fails unless a Map has just what a map of Go's has, in order.
func wantMap(t *testing.T, m Map, want map[string]string) {
	t.Helper()
	var pairs Map
	for _, k := range slices.Sorted(maps.Keys(want)) {
		pairs = append(pairs, api.Pair{Key: k, Val: want[k]})
	}
	if !slices.Equal(m, pairs) {
		t.Fatalf("%v, want %v", m, pairs)
	}
	for _, p := range pairs {
		if v, ok := m.Get(p.Key); !ok || v != p.Val {
			t.Fatalf("Get(%q): %q, %v", p.Key, v, ok)
		}
	}
}

// P2.2: keys that come and go, in an order that is no order, held against a map of Go's.
func TestMapComesAndGoes(t *testing.T) {
	keys := []string{"b", "", "aa", "a", "\xff", "é", "ab", "\x00", "a\x00", "z", "B"}
	want := map[string]string{}
	var m Map
	mix := uint32(1)
	for i := range 400 {
		mix = mix*1664525 + 1013904223
		k := keys[int(mix>>16)%len(keys)]
		if mix>>8&3 < 2 {
			v := strings.Repeat("v", i%4)
			m, want[k] = m.With(k, v), v
		} else {
			m = m.Without(k)
			delete(want, k)
		}
		wantMap(t, m, want)
		if _, has := want[k]; !has {
			if v, ok := m.Get(k); ok || v != "" {
				t.Fatalf("Get(%q) of what isn't there: %q, %v", k, v, ok)
			}
		}
	}
}

// P2.2: each place in a Map: the first, one between, the last, and those where nothing stands.
func TestMapAtEachPlace(t *testing.T) {
	m := Map{{Key: "b", Val: "1"}, {Key: "d", Val: "2"}, {Key: "f", Val: ""}}
	for _, k := range []string{"", "a", "b", "ba", "c", "d", "e", "f", "fa", "g"} {
		want := map[string]string{"b": "1", "d": "2", "f": ""}
		had, has := want[k]
		if v, ok := m.Get(k); v != had || ok != has {
			t.Errorf("Get(%q): %q, %v", k, v, ok)
		}
		want[k] = "new"
		wantMap(t, m.With(k, "new"), want)
		delete(want, k)
		wantMap(t, m.Without(k), want)
	}
}

// P2.2: of a Map of nothing.
func TestMapOfNothing(t *testing.T) {
	for _, m := range []Map{nil, {}} {
		if v, ok := m.Get("a"); ok || v != "" {
			t.Error("Get", v, ok)
		}
		if n := m.Without("a"); len(n) != 0 {
			t.Error("Without", n)
		}
		wantMap(t, m.With("a", "x"), map[string]string{"a": "x"})
	}
}

// P2.2, rule 4: With and Without turn nothing that was handed in, and tell new memory.
func TestMapNewMemory(t *testing.T) {
	whole := Map{{Key: "b", Val: "1"}, {Key: "d", Val: "2"}, {Key: "f", Val: "3"}, {Key: "room", Val: "4"}}
	was := slices.Clone(whole)
	m := whole[:3]
	for _, k := range []string{"a", "b", "c", "d", "e", "f", "g"} {
		for name, n := range map[string]Map{"With": m.With(k, "new"), "Without": m.Without(k)} {
			clear(n)
			if !slices.Equal(whole, was) {
				t.Fatalf("%s of %q turned what was handed in: %v", name, k, whole)
			}
		}
	}
	if n := m.With("x", "y"); len(m) != 3 || len(n) != 4 {
		t.Error("With", m, n)
	}
}

// P2.2: the same keys, and the same under each.
func TestSame(t *testing.T) {
	m := Map{{Key: "a", Val: "1"}, {Key: "b", Val: ""}}
	for _, c := range []struct {
		name string
		o    Map
		want bool
	}{
		{"itself", m, true},
		{"a copy", slices.Clone(m), true},
		{"nothing", nil, false},
		{"fewer", m[:1], false},
		{"more", m.With("c", ""), false},
		{"another value", m.With("b", "2"), false},
		{"another first value", m.With("a", "2"), false},
		{"another key", m.Without("b").With("c", ""), false},
		{"key and value the other way round", Map{{Key: "1", Val: "a"}, {Key: "b", Val: ""}}, false},
	} {
		if got := m.Same(c.o); got != c.want {
			t.Errorf("%s: %v", c.name, got)
		}
		if got := c.o.Same(m); got != c.want {
			t.Errorf("%s, the other way round: %v", c.name, got)
		}
	}
	if e := (Map{}); !e.Same(nil) || !Map(nil).Same(e) || !Map(nil).Same(nil) {
		t.Error("nil and empty aren't one")
	}
}

// Rule 1: lists that aren't Maps are answered somehow, and stay as they are.
func TestListsThatAreNoMaps(t *testing.T) {
	for _, m := range []Map{
		{{Key: "c"}, {Key: "a"}, {Key: "b"}},
		{{Key: "a"}, {Key: "a"}, {Key: "a"}},
	} {
		was := slices.Clone(m)
		for _, k := range []string{"", "a", "b", "c", "d"} {
			m.Get(k)
			m.With(k, "v")
			m.Without(k)
			m.Same(m.With(k, "v"))
		}
		if !slices.Equal(m, was) {
			t.Error("turned", m)
		}
	}
}
