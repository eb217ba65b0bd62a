package part

import (
	"fmt"
	"math/rand"
	"slices"
	"strings"
	"testing"

	"dockmaster/api"
	"dockmaster/store"
)

// lossConf lets the pages that are turned be written, and Checks be made, all the time.
var lossConf = store.Conf{Log: 300, Pages: 160, Room: 4}

// lossRows are messages, one behind the other.
func lossRows() map[string][]string {
	two := []string{
		"do 5.2 1 put a 1", "do 7 1 put b 1", "do 5.2 2 get c", "do 4 1 get c", "do 3 1 put a 3", "prepare 5.2 2", "do 7 2 drop d", "do 2 1 get b", "prepare 7 2",
		"do 6 1 put e 1", "commit 5.2", "do 3 2 drop c", "abort 4", "prepare 3 2", "do 6 2 put a 1", "abort 7", "prepare 2 1", "commit 3", "commit 2", "do 8 1 get a", "do 8 2 put a 8", "prepare 8 2",
	}
	given := []string{
		"do 9 1 put a 9", "do 9 2 put b 9", "do 9 3 put c 9", "do 6 1 put f 6", "do 6 2 put a 6", "do 5 1 drop b", "do 4 1 put c 4", "do 3 1 put f 3", "prepare 9 3", "commit 9",
		"prepare 6 2", "prepare 5 1", "do 4 2 put g 4", "abort 6", "prepare 3 1", "commit 5", "prepare 4 1", "commit 3",
	}
	var many []string
	for i := range 40 {
		n := 100 + i
		many = append(many, fmt.Sprintf("do %d 1 put k%02d %d", n, i*7%20, i), fmt.Sprintf("do %d 2 get r%02d", n, i%3))
		if i%3 > 0 {
			many = append(many, fmt.Sprintf("prepare %d 2", n))
		}
		if i%3 == 1 {
			many = append(many, fmt.Sprintf("commit %d", n))
		} else {
			many = append(many, fmt.Sprintf("abort %d", n))
		}
	}
	return map[string][]string{"two beside each other": two, "given on": given, "many": many}
}

// lossDesk is a desk whose store has some keys.
func lossDesk(t *testing.T) *desk {
	t.Helper()
	d := deskOf(t, lossConf)
	for i := range 20 {
		d.puts(fmt.Sprintf("k%02d=x", i))
	}
	d.puts("c=x", "d=x")
	return d
}

// after is all that is known of a part: what is open, who has which lock, and what is in the store.
func (d *desk) after() string {
	d.t.Helper()
	var locks []string
	l := d.p.Locks()
	for _, t := range d.p.Open() {
		for _, k := range l.Keys(t) {
			locks = append(locks, k+"="+wantsText(l.Has(k))+"<"+wantsText(l.Waiting(k)))
		}
	}
	slices.Sort(locks)
	return fmt.Sprintln(d.openText(), slices.Compact(locks), d.storeOpens(), d.mapText())
}

// behind is what is known behind the first messages of a row, and a loss of power.
func behind(t *testing.T, row []string) string {
	t.Helper()
	d := lossDesk(t)
	for _, s := range row {
		d.oks(d.p.Take(d.msgOf(s)))
	}
	d.lose()
	return d.after()
}

// P17.2, P17.5: the power goes at each step of each row, whatever stays: ErrDown is told, and a part of the store that is opened anew is as if it had gone ahead of the message in which it went, or behind it.
func TestLossAtEachStep(t *testing.T) {
	for name, row := range lossRows() {
		t.Run(name, func(t *testing.T) {
			r := rand.New(rand.NewSource(17))
			var states []string
			for i := range len(row) + 1 {
				states = append(states, behind(t, row[:i]))
			}
			in := map[string]bool{}
			for fuse, word := 1, "none"; word != ""; fuse++ {
				for range 4 {
					word = loseAt(t, row, states, fuse, r)
					in[word] = true
				}
			}
			for _, word := range []string{"do", "prepare", "commit", "abort"} {
				if !in[word] {
					t.Error("the power never went in", word)
				}
			}
		})
	}
}

// loseAt takes a row up to a loss of power at a step, and looks at what is left; in what the power went, or no text.
func loseAt(t *testing.T, row, states []string, fuse int, r *rand.Rand) string {
	t.Helper()
	d := lossDesk(t)
	d.d.Fuse(fuse)
	i := 0
	for ; i < len(row); i++ {
		if err := d.p.Take(d.msgOf(row[i])); err != api.OK {
			if err != api.ErrDown || !d.d.Down() {
				t.Fatal(row[i], err)
			}
			break
		}
		if d.d.Down() {
			t.Fatal(row[i], "hasn't told that the power went")
		}
		d.out()
	}
	if i == len(row) {
		return ""
	}
	// Neither is told while it isn't safe; nor are other nodes told that the power went.
	if out := d.out(); strings.Contains(out, "vote "+strings.Fields(row[i])[1]+" ok") || strings.Contains(out, "ack") || strings.Contains(out, "down") {
		t.Error(row[i], "is answered", out)
	}
	if err := d.p.Take(d.msgOf("do 1000.3 1 get k00")); err != api.ErrDown {
		t.Error("behind it", err)
	}
	keep := make([]bool, d.d.Waits())
	for j := range keep {
		keep[j] = r.Intn(2) == 0
	}
	d.d.On(keep, r.Intn(len(keep)+2)-1)
	d.open()
	if got := d.after(); got != states[i] && got != states[i+1] {
		t.Errorf("step %d, in %s:\n%s\nwant\n%s\nor\n%s", fuse, row[i], got, states[i], states[i+1])
	}
	return strings.Fields(row[i])[0]
}

// P17.5: what was prepared and not ended since is known behind a loss, with locks on all that it read or turned, and goes on; all else is as if it had never been.
func TestLoss(t *testing.T) {
	d := newDesk(t)
	d.puts("a=1", "b=2", "c=3")
	d.takes(
		"do 5.2 1 put a x > did 5.2 1 ok", "do 5.2 2 drop b > did 5.2 2 ok", "do 5.2 3 get c > did 5.2 3 ok=3", "do 5.2 4 get z > did 5.2 4 ok", "prepare 5.2 4 > vote 5.2 ok",
		"do 6 1 get c > did 6 1 ok=3", "do 6 2 put e 1 > did 6 2 ok", "do 6 3 put d 1 > did 6 3 ok",
		"do 7 1 put f 1 > did 7 1 ok", "prepare 7 1 > vote 7 ok", "commit 7 > ack 7",
		"do 8 1 put g 1 > did 8 1 ok", "prepare 8 1 > vote 8 ok", "abort 8 >",
		"do 9 1 get h > did 9 1 ok", "prepare 9 1 > vote 9 ok",
		"do 3 1 put c 1 >", "abort 10 >",
	)
	for range 2 {
		d.lose()
		d.stands("5.2! 9!", "a=5.2w b=5.2w c=5.2r h=9r z=5.2r")
		d.has("a=x c=3 f=1")
	}
	d.takes("do 10 1 get c > did 10 1 ok=3", "do 3 1 put z 3 >", "do 6 4 put d 1 > did 6 4 gone", "prepare 6 3 > vote 6 gone", "commit 8 > ack 8", "commit 5.2 > did 3 1 ok; ack 5.2", "abort 9 >")
	d.stands("3 10", "c=10r z=3w")
	d.lose()
	d.stands("", "")
	d.has("a=x c=3 f=1")
}

// P17.2: of a part whose power went what needs the store tells it, message by message; what it answers without it is nothing new.
func TestDown(t *testing.T) {
	d := newDesk(t)
	d.takes("do 5 1 put a 1 > did 5 1 ok", "do 6 1 put b 1 > did 6 1 ok", "prepare 6 1 > vote 6 ok", "do 8 1 put c 1 > did 8 1 ok", "do 2 1 get a >")
	d.d.Off()
	for _, s := range []string{"prepare 5 1", "commit 6", "do 8 2 put d 1", "do 7 1 get z", "do 7.1 1 drop z", "abort 6", "abort 8", "abort 5", "do 9 1 put a 1", "prepare 8 7"} {
		if err := d.p.Take(d.msgOf(s)); err != api.ErrDown {
			t.Error(s, err)
		}
		if out := d.out(); strings.Contains(out, "ok") || strings.Contains(out, "ack") || strings.Contains(out, "down") {
			t.Error(s, out)
		}
	}
	d.lose()
	d.stands("6!", "b=6w")
}
