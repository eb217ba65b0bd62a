package coord

import (
	"fmt"
	"math/rand"
	"slices"
	"strings"
	"testing"

	"dockmaster/api"
	"dockmaster/store"
)

// lossConf lets Checks be made all the time.
var lossConf = store.Conf{Log: 100, Pages: 60, Room: 4}

// lossRow is calls of many transactions with two nodes: one in three is known to both soon, one to one of them, one to none; now and then one is given up.
func lossRow() []string {
	var row []string
	for k := 1; k <= 45; k++ {
		row = append(row, "begin")
		for _, n := range []int{4, 2} {
			row = append(row, fmt.Sprintf("do %d %d put k v", k, n), fmt.Sprintf("welcome %d %d 7", k, n), fmt.Sprintf("did %d %d 1 ok", k, n))
		}
		row = append(row, fmt.Sprintf("commit %d", k), fmt.Sprintf("vote %d 4 ok", k))
		if k%10 == 5 {
			row = append(row, fmt.Sprintf("vote %d 2 gone", k))
			continue
		}
		row = append(row, fmt.Sprintf("vote %d 2 ok", k))
		if k%3 > 0 {
			row = append(row, fmt.Sprintf("ack %d 2", k))
		}
		if k > 4 && k%3 == 0 {
			row = append(row, fmt.Sprintf("ack %d 4", k-4))
		}
		if k%3 == 1 {
			row = append(row, fmt.Sprintf("ack %d 4", k))
		}
	}
	return row
}

// tale is what clients were told, and nodes have said, up to a loss of power.
type tale struct {
	told  map[string]bool   // that are told to be committed
	knows map[string]string // which nodes have said that they know it: "", "2", "4", "24"
	begun int
}

func (x *tale) note(call, news string) {
	w := strings.Fields(call)
	switch w[0] {
	case "begin":
		x.begun++
	case "ack":
		x.knows[w[1]] += w[2]
	}
	_, ok, is := strings.Cut(news, "told ")
	if k, told := strings.CutSuffix(ok, " ok"); is && told && w[0] == "vote" {
		x.told[k] = true
	}
}

// mayBe tells whether a transaction may be said to nodes behind a loss, in a call that may have been noted, though it wasn't answered.
func (x *tale) mayBe(k, nodes, call string) bool {
	if !x.told[k] {
		return nodes == "" || nodes == "24" && call == "vote "+k+" 2 ok"
	}
	knows := x.knows[k]
	if n, is := strings.CutPrefix(call, "ack "+k+" "); is {
		knows += n
	}
	for _, n := range []string{"2", "4"} {
		if !strings.Contains(knows, n) && !strings.Contains(nodes, n) {
			return false
		}
	}
	return strings.Contains("24", nodes)
}

// P18.3, P18.4, P18.5: the power goes at each step of the disk in a Vote that decides and in an Ack, whatever stays: ErrDown is told, and nothing has turned; behind it what was decided and isn't known to all is said again, and nothing else.
func TestLossAtEachStep(t *testing.T) {
	row := lossRow()
	r := rand.New(rand.NewSource(18))
	in := map[string]int{}
	for fuse, word := 1, "none"; word != ""; fuse++ {
		for range 6 {
			word = loseAt(t, row, fuse, r)
			in[word]++
		}
	}
	if in["vote"] == 0 || in["ack"] == 0 || len(in) != 3 {
		t.Error(in)
	}
}

// loseAt makes calls up to a loss of power at a step, and looks at what is left; in what the power went, or no text.
func loseAt(t *testing.T, row []string, fuse int, r *rand.Rand) string {
	t.Helper()
	d := deskOf(t, lossConf)
	d.d.Fuse(fuse)
	x := &tale{told: map[string]bool{}, knows: map[string]string{}}
	lost := ""
	for _, s := range row {
		open := d.openText()
		err := d.call(s)
		news := d.news()
		if err == api.ErrDown && d.d.Down() {
			is(t, s, news, "")
			is(t, s, d.openText(), open)
			lost = s
			break
		}
		if err != api.OK || d.d.Down() {
			t.Fatal(s, err)
		}
		x.note(s, news)
	}
	if lost == "" {
		return ""
	}
	if err := d.call(lost); err != api.ErrDown {
		t.Error(lost, "once more", err)
	}
	keep := make([]bool, d.d.Waits())
	for j := range keep {
		keep[j] = r.Intn(2) == 0
	}
	d.d.On(keep, r.Intn(len(keep)+2)-1)
	d.open()
	d.comesAgain(x, fmt.Sprint("step ", fuse, ", in ", lost), lost)
	return strings.Fields(lost)[0]
}

// comesAgain holds what is said behind a loss against what was told ahead of it.
func (d *desk) comesAgain(x *tale, where, lost string) {
	d.t.Helper()
	is(d.t, where, d.openText(), "")
	d.k.Tick()
	said := map[string]string{}
	var order []api.Tid
	for _, m := range d.k.Out() {
		k := tidText(m.Tid)
		is(d.t, where, outText(m), fmt.Sprint("commit ", k, " ", m.To))
		said[k] += fmt.Sprint(m.To)
		order = append(order, m.Tid)
	}
	if !slices.IsSortedFunc(order, func(a, b api.Tid) int { return int(a.Num) - int(b.Num) }) {
		d.t.Error(where, order)
	}
	for i := 1; i <= x.begun; i++ {
		k := fmt.Sprint(i)
		if !x.mayBe(k, said[k], lost) {
			d.t.Errorf("%s: %s is said to %q, told %v, known to %q", where, k, said[k], x.told[k], x.knows[k])
		}
		want := "abort " + k + " 2"
		if said[k] != "" {
			want = "commit " + k + " 2"
		}
		d.runs("ask " + k + " 2 > " + want)
		for _, n := range said[k] {
			d.runs(fmt.Sprintf("ack %s %c >", k, n))
		}
	}
	d.ticks("", "", "", "")
}

// P18.5: behind a loss the store begins a new life, in which nothing is under way; what was voted and not decided was given up.
func TestLoss(t *testing.T) {
	d := newDesk(t)
	d.begins(4)
	d.voted("1")
	d.voted("2")
	d.does("3", 2, 7, 1)
	d.runs("vote 2 2 ok > commit 2 0; commit 2 2; told 2 ok", "do 3 2 get k > do 3 2 7 2 get k", "ack 2 2 >")
	for range 2 {
		d.lose()
		d.stands("", "2:0+2")
		d.runs("vote 1 2 ok >", "did 3 2 2 ok >", "welcome 3 2 7 >", "ask 1 0 > abort 1 0", "ask 3 2 > abort 3 2", "commit 3 > !none")
		d.ticks("commit 2 0; commit 2 2", "", "", "commit 2 0; commit 2 2")
	}
	d.runs("begin >", "do 3:1 2 get k > hello 3:1 2", "ack 2 0 >", "ack 2 2 >")
	d.oks(d.s.Check())
	d.lose()
	d.stands("", "")
	d.ticks("", "", "", "", "")
}
