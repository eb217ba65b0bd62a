package lock

import (
	"slices"
	"testing"
)

// P12.2: Free of one who has a key, who only waits for one, who does both, who does neither.
func TestFreeWho(t *testing.T) {
	begun := func() desk {
		d := newDesk(t)
		d.asks("a", "5w", Granted)
		d.asks("a", "4w", Waits)
		d.asks("b", "4w", Granted)
		d.asks("b", "3w", Waits)
		return d
	}
	d := begun()
	d.frees("5", "a:4w")
	d.stands("a", "4w", "")
	d.stands("b", "4w", "3w")
	d.keys("5", "")
	d.keys("4", "a b")
	d.len(2)

	d = begun()
	d.frees("3", "")
	d.stands("a", "5w", "4w")
	d.stands("b", "4w", "")
	d.keys("3", "")
	d.len(2)

	d = begun()
	d.frees("4", "b:3w")
	d.stands("a", "5w", "")
	d.stands("b", "3w", "")
	d.keys("4", "")
	d.keys("3", "b")
	d.len(2)

	d = begun()
	d.frees("9", "")
	d.frees("5.1", "")
	d.stands("a", "5w", "4w")
	d.stands("b", "4w", "3w")
	d.len(2)
}

// P12.2: who is let go twice has nothing to let go the second time, and may ask again as any other one.
func TestFreeTwice(t *testing.T) {
	d := newDesk(t)
	d.asks("k", "5w", Granted)
	d.asks("k", "4r", Waits)
	d.frees("5", "k:4r")
	d.frees("5", "")
	d.stands("k", "4r", "")
	d.asks("k", "5r", Granted)
	d.asks("k", "5w", Dies)
	d.frees("4", "")
	d.asks("k", "5w", Granted)
	d.stands("k", "5w", "")
}

// P12.2: what is given when one lets a key go, by who has it beside, and who waits.
func TestFreeGives(t *testing.T) {
	for _, c := range []struct {
		has, waits   string
		free, grants string
		now, still   string
	}{
		{"5r", "", "5", "", "", ""},
		{"5r 7r", "", "5", "", "7r", ""},
		{"5w", "4w", "5", "k:4w", "4w", ""},
		{"5w", "4r", "5", "k:4r", "4r", ""},
		{"5w", "4w 3w", "5", "k:4w", "4w", "3w"},
		{"5w", "4w 3r", "5", "k:4w", "4w", "3r"},
		{"5w", "4r 3w", "5", "k:4r", "4r", "3w"},
		{"5w", "2r 4r 3r", "5", "k:2r k:4r k:3r", "2r 3r 4r", ""},
		{"5w", "2r 4r 3r 1w 0r", "5", "k:2r k:4r k:3r", "2r 3r 4r", "1w 0r"},
		{"5r 7r", "4w", "5", "", "7r", "4w"},
		{"5r 7r", "4w", "7", "", "5r", "4w"},
		{"5r 7r", "4w 3r", "7", "", "5r", "4w 3r"},
		{"5r 7r", "5w", "7", "k:5w", "5w", ""},
		{"5r 7r", "5w 4w", "7", "k:5w", "5w", "4w"},
		{"5r 7r 9r", "5w", "7", "", "5r 9r", "5w"},
		{"5r 7r", "5w 4r", "5", "k:4r", "4r 7r", ""},
		{"5r 7r", "5w 4w", "5", "", "7r", "4w"},
		{"5r 7r", "4w 5w", "5", "", "7r", "4w"},
		{"5r 7r", "4w 3r 2r", "4", "k:3r k:2r", "2r 3r 5r 7r", ""},
		{"5r 7r", "4w 3r 2w 1r", "4", "k:3r", "3r 5r 7r", "2w 1r"},
		{"5w", "4w 3w 2r", "4", "", "5w", "3w 2r"},
		{"5w", "4r 3w 2r", "3", "", "5w", "4r 2r"},
		{"5w", "4r 3r", "3", "", "5w", "4r"},
		{"5r", "4w 3r", "5", "k:4w", "4w", "3r"},
	} {
		d := newDesk(t)
		d.asks("k", c.has, Granted)
		d.asks("k", c.waits, Waits)
		d.frees(c.free, c.grants)
		d.stands("k", c.now, c.still)
		d.asks("k", c.now, Granted)
		d.asks("k", c.still, Waits)
		d.stands("k", c.now, c.still)
		if t.Failed() {
			t.Fatal(c)
		}
	}
}

// P12.2: key by key, in order, whatever the order in which they were asked for; has and waits alike.
func TestFreeKeys(t *testing.T) {
	d := newDesk(t)
	for _, k := range []string{"m", "b", "\xff", "ba", "", "Z"} {
		d.asks(k, "5w", Granted)
		d.asks(k, "4r 3r", Waits)
	}
	d.asks("c", "9r", Granted)
	d.asks("c", "5w", Waits)
	d.asks("c", "4r", Waits)
	d.keys("5", " Z b ba m \xff")
	d.len(7)
	d.frees("5", ":4r :3r Z:4r Z:3r b:4r b:3r ba:4r ba:3r c:4r m:4r m:3r \xff:4r \xff:3r")
	d.keys("5", "")
	d.keys("4", " Z b ba c m \xff")
	d.keys("3", " Z b ba m \xff")
	d.stands("c", "4r 9r", "")
	d.len(7)
}

// P12.2: who is given a lock has it as if it had been granted: it lets it go, too.
func TestFreeOnAndOn(t *testing.T) {
	d := newDesk(t)
	for _, k := range []string{"a", "b"} {
		d.asks(k, "5w", Granted)
		d.asks(k, "4w 3w 2r 1r", Waits)
	}
	d.frees("5", "a:4w b:4w")
	d.keys("4", "a b")
	d.frees("4", "a:3w b:3w")
	d.frees("2", "")
	d.frees("3", "a:1r b:1r")
	d.keys("1", "a b")
	d.len(2)
	d.frees("1", "")
	d.len(0)
}

// P12.2: a key that nobody has or waits for counts no more, and one who died didn't let it count.
func TestLen(t *testing.T) {
	d := newDesk(t)
	d.asks("a", "5w", Granted)
	d.asks("a", "6w 6r", Dies)
	d.len(1)
	d.asks("a", "4w", Waits)
	d.len(1)
	d.asks("b", "5r 6r", Granted)
	d.asks("c", "6r", Granted)
	d.len(3)
	d.frees("6", "")
	d.len(2)
	d.stands("c", "", "")
	d.frees("4", "")
	d.len(2)
	d.frees("5", "")
	d.len(0)
	d.stands("a", "", "")
	d.asks("a", "9w", Granted)
	d.len(1)
}

// P12.2: Keys is what a transaction has, not what it waits for.
func TestKeys(t *testing.T) {
	d := newDesk(t)
	d.asks("b", "4r", Granted)
	d.asks("a", "5w", Granted)
	d.asks("a", "4w", Waits)
	d.asks("c", "4w", Granted)
	d.keys("4", "b c")
	d.keys("5", "a")
	d.keys("4.1", "")
	d.asks("b", "7r", Granted)
	d.asks("b", "4w", Waits)
	d.keys("4", "b c")
	d.frees("5", "a:4w")
	d.keys("4", "a b c")
	d.frees("7", "b:4w")
	d.keys("4", "a b c")
}

// Rule 4: what is handed out is apart from the table, and from what is handed out later.
func TestApart(t *testing.T) {
	d := newDesk(t)
	d.asks("a", "5r 6r", Granted)
	d.asks("a", "4w 3w", Waits)
	d.asks("b", "5w", Granted)
	d.asks("b", "2r 1r", Waits)
	has, waits, keys := d.l.Has("a"), d.l.Waiting("a"), d.l.Keys(tidOf("5"))
	more := wantOf("9w")
	_, _, _ = append(has, more), append(waits, more), append(keys, "x")
	kept := slices.Clone(has)
	d.asks("a", "4.5r", Dies)
	d.frees("6", "")
	if !slices.Equal(has, kept) {
		t.Error("an answer was turned", wantsText(has))
	}
	clear(has)
	clear(waits)
	clear(keys)
	d.stands("a", "5r", "4w 3w")
	d.keys("5", "a b")
	given := d.l.Free(tidOf("5"))
	if grantsText(given) != "a:4w b:2r b:1r" {
		t.Error(grantsText(given))
	}
	clear(given)
	d.stands("a", "4w", "3w")
	d.stands("b", "1r 2r", "")
}
