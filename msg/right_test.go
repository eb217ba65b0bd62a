package msg

import (
	"fmt"
	"math"
	"math/rand"
	"slices"
	"strings"
	"testing"

	"dockmaster/api"
)

// P15.1: the kinds' numbers, those of what is done, and the limit, as the chapter says them.
func TestKinds(t *testing.T) {
	got := []int{Hello, Welcome, Do, Did, Prepare, Vote, Commit, Ack, Abort, Ask}
	if !slices.Equal(got, []int{1, 2, 3, 4, 5, 6, 7, 8, 9, 10}) {
		t.Error(got)
	}
	if Get != 1 || Put != 2 || Drop != 3 || MaxN != 1<<20 {
		t.Error(Get, Put, Drop, MaxN)
	}
}

// turned is what is done to a plain message, and the kinds of which it is right then.
type turned struct {
	name string
	turn func(*Msg)
	of   []int
}

func all() []int {
	var out []int
	for kind := range kinds {
		out = append(out, kind+1)
	}
	return out
}

func but(kind int) []int {
	return slices.DeleteFunc(all(), func(k int) bool { return k == kind })
}

// turns is each field at its bounds, one past them, and far from them.
func turns() []turned {
	return slices.Concat(ends(), lives(), numbers(), deeds(), vals(), codes())
}

func ends() []turned {
	out := []turned{
		{"none", func(m *Msg) {}, all()},
		{"to itself", func(m *Msg) { m.To = m.From }, all()},
		{"all noughts", func(m *Msg) { m.From, m.To, m.Tid = 0, 0, api.Tid{} }, all()},
		{"Num 0", func(m *Msg) { m.Tid.Num = 0 }, all()},
		{"Num MaxTid", func(m *Msg) { m.Tid.Num = 1 << 40 }, all()},
		{"Num MaxTid and 1", func(m *Msg) { m.Tid.Num = 1<<40 + 1 }, nil},
		{"Num of the greatest", func(m *Msg) { m.Tid.Num = math.MaxUint64 }, nil},
	}
	for _, n := range []int{math.MinInt, -1, 0, 1, 63, 64, math.MaxInt} {
		var of []int
		if n >= 0 && n <= 63 {
			of = all()
		}
		out = append(out,
			turned{fmt.Sprint("From ", n), func(m *Msg) { m.From = n }, of},
			turned{fmt.Sprint("To ", n), func(m *Msg) { m.To = n }, of},
			turned{fmt.Sprint("Tid's Node ", n), func(m *Msg) { m.Tid.Node = n }, of},
		)
	}
	return out
}

func lives() []turned {
	life := func(n uint64) func(*Msg) { return func(m *Msg) { m.Life = n } }
	of := []int{Welcome, Do, Prepare}
	return []turned{
		{"Life 0", life(0), all()},
		{"Life 1", life(1), of},
		{"Life 2^40", life(1 << 40), of},
		{"Life 2^40 and 1", life(1<<40 + 1), nil},
		{"Life 2^63", life(1 << 63), nil},
		{"Life of the greatest", life(math.MaxUint64), nil},
	}
}

func numbers() []turned {
	n := func(n int) func(*Msg) { return func(m *Msg) { m.N = n } }
	of := []int{Do, Did, Prepare}
	return []turned{
		{"N of the least", n(math.MinInt), nil},
		{"N -1", n(-1), nil},
		{"N 0", n(0), all()},
		{"N 1", n(1), of},
		{"N MaxN", n(1 << 20), of},
		{"N MaxN and 1", n(1<<20 + 1), nil},
		{"N of the greatest", n(math.MaxInt), nil},
	}
}

func deeds() []turned {
	op := func(n int) func(*Msg) { return func(m *Msg) { m.Op = n } }
	key := func(k string) func(*Msg) { return func(m *Msg) { m.Key = k } }
	of := []int{Do}
	return []turned{
		{"Op of the least", op(math.MinInt), nil},
		{"Op -1", op(-1), nil},
		{"Op 0", op(0), but(Do)},
		{"Op Get", op(1), of},
		{"Op Put", op(2), of},
		{"Op Drop", op(3), of},
		{"Op 4", op(4), nil},
		{"Op of the greatest", op(math.MaxInt), nil},
		{"no Key", key(""), but(Do)},
		{"a Key", key("a"), of},
		{"a Key of noughts", key("\x00"), of},
		{"a Key of any bytes", key("\xff\x00\x80"), of},
		{"a Key of 24", key(strings.Repeat("k", 24)), of},
		{"a Key of 25", key(strings.Repeat("k", 25)), nil},
		{"a Key of 24 runes", key(strings.Repeat("é", 24)), nil},
		{"a Key, no Op", func(m *Msg) { m.Op, m.Key = 0, "k" }, nil},
		{"an Op, no Key", func(m *Msg) { m.Op, m.Key = Get, "" }, nil},
		{"no Key, no Op", func(m *Msg) { m.Op, m.Key = 0, "" }, but(Do)},
	}
}

func vals() []turned {
	did := func(has bool, v string) func(*Msg) { return func(m *Msg) { m.Has, m.Val = has, v } }
	of := func(op int, v string) func(*Msg) { return func(m *Msg) { m.Op, m.Key, m.Val = op, "k", v } }
	long, longer := strings.Repeat("v", 48), strings.Repeat("v", 49)
	return []turned{
		{"a Val", did(false, "v"), nil},
		{"a Val of a nought", did(false, "\x00"), nil},
		{"Has", did(true, ""), []int{Did}},
		{"Has, a Val", did(true, "v"), []int{Did}},
		{"Has, a Val of any bytes", did(true, "\xff\x00"), []int{Did}},
		{"Has, a Val of 48", did(true, long), []int{Did}},
		{"Has, a Val of 49", did(true, longer), nil},
		{"no Has, a Val of 48", did(false, long), nil},
		{"a Get's Val", of(Get, "v"), nil},
		{"a Put's Val", of(Put, "v"), []int{Do}},
		{"a Put's Val of any bytes", of(Put, "\xff\x00"), []int{Do}},
		{"a Put's Val of 48", of(Put, long), []int{Do}},
		{"a Put's Val of 49", of(Put, longer), nil},
		{"a Put's Val of 48 runes", of(Put, strings.Repeat("é", 48)), nil},
		{"a Put without a Val", of(Put, ""), []int{Do}},
		{"a Drop's Val", of(Drop, "v"), nil},
		{"a Val of Op 4", of(4, "v"), nil},
		{"a Put's Has", func(m *Msg) { m.Op, m.Has = Put, true }, nil},
		{"a Put's Has and Val", func(m *Msg) { m.Op, m.Has, m.Val = Put, true, "v" }, nil},
	}
}

func codes() []turned {
	code := func(e api.Errno) func(*Msg) { return func(m *Msg) { m.Code = e } }
	of := []int{Did, Vote}
	return []turned{
		{"Code of the least", code(math.MinInt), nil},
		{"Code -1", code(-1), nil},
		{"Code OK", code(api.OK), all()},
		{"Code ErrArg", code(api.ErrArg), of},
		{"Code ErrUnknown", code(api.ErrUnknown), of},
		{"Code ErrSession", code(api.ErrSession), of},
		{"Code 18", code(18), nil},
		{"Code of the greatest", code(math.MaxInt), nil},
		{"a Code, Has, a Val", func(m *Msg) { m.Code, m.Has, m.Val = api.ErrDied, true, "v" }, []int{Did}},
	}
}

// P15.1: each kind, with each field turned: right of the kinds that may have it, within its bounds, and of no other one.
func TestRight(t *testing.T) {
	for _, c := range turns() {
		for kind := Hello; kind <= Ask; kind++ {
			m := plain(kind, c.turn)
			if want := slices.Contains(c.of, kind); m.Right() != want || fits(m) != want {
				t.Errorf("kind %d, %s: %v, by another hand %v, want %v", kind, c.name, m.Right(), fits(m), want)
			}
		}
		for _, kind := range []int{math.MinInt, -1, 0, 11, 12, math.MaxInt} {
			if m := plain(kind, c.turn); m.Right() {
				t.Errorf("kind %d, %s: right", kind, c.name)
			}
		}
	}
	if (Msg{}).Right() {
		t.Error("nothing is right")
	}
}

// P15.1: fields of several at once, also such as no kind has together, held against another hand's look.
func TestRightOfSeveral(t *testing.T) {
	rnd := rand.New(rand.NewSource(15))
	list, right := turns(), 0
	for range 200000 {
		m := anyMsg(rnd)
		for range rnd.Intn(3) {
			list[rnd.Intn(len(list))].turn(&m)
		}
		if m.Right() != fits(m) {
			t.Fatalf("%+v: %v", m, m.Right())
		}
		if m.Right() {
			right++
		}
	}
	if right < 20000 || right > 180000 {
		t.Error("too few of one sort:", right)
	}
}
