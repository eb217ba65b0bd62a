package lock

import (
	"math"
	"testing"

	"dockmaster/api"
)

// P12.1: the numbers of modes and answers, as the chapter says them.
func TestKinds(t *testing.T) {
	if Read != 1 || Write != 2 || Granted != 1 || Waits != 2 || Dies != 3 {
		t.Error(Read, Write, Granted, Waits, Dies)
	}
}

// P12.1: in a new table nothing is locked, nobody waits.
func TestNew(t *testing.T) {
	d := newDesk(t)
	d.len(0)
	d.stands("k", "", "")
	d.keys("1", "")
	d.frees("1", "")
	other := newDesk(t)
	d.asks("k", "5w", Granted)
	other.asks("k", "6w", Granted)
	d.stands("k", "5w", "")
	other.stands("k", "6w", "")
}

// P12.1: a mode that is neither: whoever asks dies, also who has the key, or waits for it; nothing else is done.
func TestAskNoMode(t *testing.T) {
	for _, m := range []Mode{0, 3, -1, 4, math.MaxInt, math.MinInt} {
		d := newDesk(t)
		d.asks("k", "5w", Granted)
		d.asks("k", "4r", Waits)
		for tid, k := range map[string]string{"5": "k", "4": "k", "3": "k", "9": "free"} {
			if got := d.l.Ask(tidOf(tid), k, m); got != Dies {
				t.Error(m, tid, k, got)
			}
		}
		d.stands("k", "5w", "4r")
		d.stands("free", "", "")
		d.len(1)
	}
}

// P12.1: a key that nobody has: also of no byte, a long one, and one of any transaction.
func TestAskFree(t *testing.T) {
	d := newDesk(t)
	long := string(make([]byte, 1000))
	d.asks("", "5r", Granted)
	d.asks(long, "5w", Granted)
	d.stands("", "5r", "")
	d.stands(long, "5w", "")
	odd := api.Tid{Num: math.MaxUint64, Node: math.MinInt}
	if got := d.l.Ask(odd, "k", Write); got != Granted {
		t.Error(got)
	}
	if k := d.l.Keys(odd); len(k) != 1 || k[0] != "k" {
		t.Error(k)
	}
	d.len(3)
}

// P12.1: one who has the key in that mode, or to be written, has it; to be read it doesn't turn what is to be written.
func TestAskHad(t *testing.T) {
	d := newDesk(t)
	d.asks("r", "5r 5r", Granted)
	d.asks("w", "5w 5w 5r 5r", Granted)
	d.stands("r", "5r", "")
	d.stands("w", "5w", "")
	d.asks("w", "4r 3w", Waits)
	d.asks("w", "5r 5w", Granted)
	d.stands("w", "5w", "4r 3w")
	d.keys("5", "r w")
	d.len(2)
}

// P12.1: one who has it to be read, and waits to write it, has it to be read still.
func TestAskHadAndWaited(t *testing.T) {
	d := newDesk(t)
	d.asks("k", "5r 7r", Granted)
	d.asks("k", "5w 5w", Waits)
	d.asks("k", "5r 7r", Granted)
	d.stands("k", "5r 7r", "5w")
}

// P12.1: one who has it to be read, alone, and asks to write it, has it to be written, whoever waits.
func TestAskMore(t *testing.T) {
	d := newDesk(t)
	d.asks("k", "5r 5w", Granted)
	d.stands("k", "5w", "")
	d.asks("k", "6r 6w", Dies)
	d.asks("k", "4r", Waits)
	d.frees("5", "k:4r")
	d.asks("k", "4w", Granted)
	d.stands("k", "4w", "")
}

// P12.1: one who has it to be read, and asks to write it, beside others: waits, if it is elder than they all, else dies.
func TestAskMoreBeside(t *testing.T) {
	for _, c := range []struct {
		has, asks string
		answer    Answer
		waits     string
	}{
		{"5r 7r", "5w", Waits, "5w"},
		{"5r 7r", "7w", Dies, ""},
		{"5r 7r 9r", "7w", Dies, ""},
		{"5r 7r 9r", "9w", Dies, ""},
		{"5r 7r 9r", "5w", Waits, "5w"},
		{"5.1r 5.2r", "5.1w", Waits, "5.1w"},
		{"5.1r 5.2r", "5.2w", Dies, ""},
	} {
		d := newDesk(t)
		d.asks("k", c.has, Granted)
		d.asks("k", c.asks, c.answer)
		d.stands("k", c.has, c.waits)
		d.len(1)
	}
}

// P12.1: one who waits already waits, whatever it asks for, at its place, and for what it asked for first.
func TestAskWaiting(t *testing.T) {
	d := newDesk(t)
	d.asks("k", "9w", Granted)
	d.asks("k", "5r 4w 3r", Waits)
	d.asks("k", "5r 5w 4r 4w 3w 3r", Waits)
	d.stands("k", "9w", "5r 4w 3r")
	d.len(1)
}

// P12.1: the place is behind all who wait, in the order in which they came.
func TestAskPlace(t *testing.T) {
	d := newDesk(t)
	d.asks("k", "9w", Granted)
	d.asks("k", "5r 7r 6r 2w 1r", Waits)
	d.stands("k", "9w", "5r 7r 6r 2w 1r")
}

// P12.1: who has the key waits ahead of all who haven't; they must be elder.
func TestAskPlaceOfHad(t *testing.T) {
	d := newDesk(t)
	d.asks("k", "5r 7r", Granted)
	d.asks("k", "4w 3r 2w", Waits)
	d.asks("k", "7w", Dies)
	d.stands("k", "5r 7r", "4w 3r 2w")
	d.asks("k", "5w", Waits)
	d.stands("k", "5r 7r", "5w 4w 3r 2w")
	d.asks("k", "7w", Dies)
	d.asks("k", "1r", Waits)
	d.stands("k", "5r 7r", "5w 4w 3r 2w 1r")
	d.frees("7", "k:5w")
	d.stands("k", "5w", "4w 3r 2w 1r")
}

// P12.1: the same of one who has it alone: it is given to it, though others wait.
func TestAskAloneAheadOfWaiting(t *testing.T) {
	d := newDesk(t)
	d.asks("k", "5r", Granted)
	d.asks("k", "4w 3r", Waits)
	d.asks("k", "5w", Granted)
	d.stands("k", "5w", "4w 3r")
	d.frees("5", "k:4w")
	d.frees("4", "k:3r")
}

// P12.1: the place behind those alone at the front who have the key, in lines laid by hand.
func TestFront(t *testing.T) {
	list := func(wants ...string) []Want {
		var out []Want
		for _, s := range wants {
			out = append(out, wantOf(s))
		}
		return out
	}
	for _, c := range []struct {
		has, waits []Want
		want       int
	}{
		{nil, nil, 0},
		{list("5r"), nil, 0},
		{list("5r"), list("4w"), 0},
		{list("5r", "7r"), list("5w"), 1},
		{list("5r", "7r"), list("5w", "4w"), 1},
		{list("5r", "7r", "9r"), list("7w", "5w", "4w"), 2},
		{list("5r", "7r", "9r"), list("7w", "4w", "5w"), 1},
		{list("5r", "7r", "9r"), list("4w", "7w", "5w"), 0},
	} {
		if got := (line{c.has, c.waits}).front(); got != c.want {
			t.Error(wantsText(c.has), "/", wantsText(c.waits), got, c.want)
		}
	}
}

// P12.1: one who waits behind the place in a mode against the one asked for, elder and not, in lines laid by hand: of a table's own all who wait are elder.
func TestJudgeBehind(t *testing.T) {
	for _, c := range []struct {
		waits string
		at    int
		asks  string
		want  Answer
	}{
		{"4w", 0, "5w", Granted},
		{"4r", 0, "5w", Granted},
		{"6w", 0, "5w", Dies},
		{"6r", 0, "5w", Dies},
		{"6w", 0, "5r", Dies},
		{"6r", 0, "5r", Granted},
		{"5.2w", 0, "5.1w", Dies},
		{"5.1w", 0, "5.2w", Granted},
		{"6w", 1, "5w", Waits},
		{"4w", 1, "5w", Dies},
	} {
		q := line{waits: []Want{wantOf(c.waits)}}
		if got := q.judge(wantOf(c.asks), c.at); got != c.want {
			t.Error(c, got)
		}
	}
	q := line{waits: []Want{wantOf("4w"), wantOf("3r"), wantOf("6r")}}
	if got := q.judge(wantOf("5w"), 0); got != Dies {
		t.Error("the last one isn't elder", got)
	}
}

// P12.1: kept back by those who have the key: an elder one waits, a younger one dies; two who read it aren't against each other.
func TestAskKeptByHas(t *testing.T) {
	for _, c := range []struct {
		has, asks string
		answer    Answer
		behind    string // who has the key behind that
	}{
		{"5w", "4r", Waits, "5w"},
		{"5w", "4w", Waits, "5w"},
		{"5w", "6r", Dies, "5w"},
		{"5w", "6w", Dies, "5w"},
		{"5r", "4w", Waits, "5r"},
		{"5r", "6w", Dies, "5r"},
		{"5r", "4r", Granted, "4r 5r"},
		{"5r", "6r", Granted, "5r 6r"},
		{"5r 7r 9r", "4w", Waits, "5r 7r 9r"},
		{"5r 7r 9r", "6w", Dies, "5r 7r 9r"},
		{"5r 7r 9r", "8w", Dies, "5r 7r 9r"},
		{"5r 7r 9r", "10w", Dies, "5r 7r 9r"},
		{"5r 7r 9r", "8r", Granted, "5r 7r 8r 9r"},
		{"9r 5r 7r", "4r", Granted, "4r 5r 7r 9r"},
		{"5.3r 5.1r", "5.2r", Granted, "5.1r 5.2r 5.3r"},
		{"5.3w", "5.2w", Waits, "5.3w"},
		{"5.3w", "5.4w", Dies, "5.3w"},
		{"5.3w", "5.2r", Waits, "5.3w"},
		{"5.3w", "5.4r", Dies, "5.3w"},
		{"5.3w", "4.9r", Waits, "5.3w"},
		{"5.3w", "6.1r", Dies, "5.3w"},
	} {
		d := newDesk(t)
		d.asks("k", c.has, Granted)
		d.asks("k", c.asks, c.answer)
		waits, keys := "", ""
		switch c.answer {
		case Granted:
			keys = "k"
		case Waits:
			waits = c.asks
		}
		d.stands("k", c.behind, waits)
		d.keys(tidText(wantOf(c.asks).Tid), keys)
		d.len(1)
	}
}

// P12.1: kept back by those alone who wait ahead of the place.
func TestAskKeptByWaiting(t *testing.T) {
	for asks, answer := range map[string]Answer{"3r": Waits, "6r": Dies, "5.1r": Dies, "4.1r": Dies, "9r": Dies} {
		d := newDesk(t)
		d.asks("k", "7r", Granted)
		d.asks("k", "4w", Waits)
		d.asks("k", asks, answer)
		waits := "4w"
		if answer == Waits {
			waits += " " + asks
		}
		d.stands("k", "7r", waits)
	}
}

// P12.1: kept back by both: elder than all of them, elder than some alone.
func TestAskKeptByBoth(t *testing.T) {
	for asks, answer := range map[string]Answer{"1w": Waits, "1r": Waits, "3w": Dies, "5w": Dies, "8w": Dies, "8r": Dies, "2.1w": Dies, "3r": Dies} {
		d := newDesk(t)
		d.asks("k", "7w", Granted)
		d.asks("k", "4w 2w", Waits)
		d.asks("k", asks, answer)
		waits := "4w 2w"
		if answer == Waits {
			waits += " " + asks
		}
		d.stands("k", "7w", waits)
	}
	d := newDesk(t)
	d.asks("k", "7w", Granted)
	d.asks("k", "4r 6r 5r", Waits)
	d.asks("k", "5.1w 4.1w 6.1w", Dies)
	d.asks("k", "6.1r 3w", Waits)
	d.stands("k", "7w", "4r 6r 5r 6.1r 3w")
}

// P12.1: one key's locks don't keep back who asks for another one.
func TestAskOtherKey(t *testing.T) {
	d := newDesk(t)
	d.asks("a", "5w", Granted)
	d.asks("a", "4w", Waits)
	d.asks("b", "9w", Granted)
	d.asks("b", "4r", Waits)
	d.asks("b", "5w", Dies)
	d.asks("c", "5w", Granted)
	d.asks("d", "9r 4r", Granted)
	d.stands("a", "5w", "4w")
	d.stands("b", "9w", "4r")
	d.keys("4", "d")
	d.keys("5", "a c")
	d.keys("9", "b d")
	d.len(4)
}

// Rule 1: what is asked of a nil Table.
func TestNilTable(t *testing.T) {
	var l *Table
	for _, m := range []Mode{Read, Write, 0} {
		if got := l.Ask(tidOf("1"), "k", m); got != Dies {
			t.Error(m, got)
		}
	}
	if l.Free(tidOf("1")) != nil || l.Has("k") != nil || l.Waiting("k") != nil || l.Keys(tidOf("1")) != nil || l.Len() != 0 {
		t.Error("a nil Table has something")
	}
}

// Rule 1: a Table that New didn't make is one in which nothing is locked.
func TestZeroTable(t *testing.T) {
	d := desk{t, &Table{}}
	d.len(0)
	d.stands("k", "", "")
	d.keys("5", "")
	d.frees("5", "")
	d.asks("k", "5r", Granted)
	d.asks("k", "4w", Waits)
	d.stands("k", "5r", "4w")
	d.frees("5", "k:4w")
	d.len(1)
}
