package lock

import (
	"fmt"
	"slices"
	"strconv"
	"strings"
	"testing"

	"dockmaster/api"
)

// desk is a table, with texts for what goes in and comes out: 5 is the transaction 5 of node 0, 5.2 that of node 2; 5r is its lock to be read, 5w to be written.
type desk struct {
	t *testing.T
	l *Table
}

func newDesk(t *testing.T) desk {
	t.Helper()
	return desk{t, New()}
}

func tidOf(s string) api.Tid {
	num, node, _ := strings.Cut(s, ".")
	n, err := strconv.Atoi(num)
	if err != nil {
		panic(err)
	}
	at, _ := strconv.Atoi(node)
	return api.Tid{Num: uint64(n), Node: at}
}

func wantOf(s string) Want {
	m := Read
	if strings.HasSuffix(s, "w") {
		m = Write
	}
	return Want{Tid: tidOf(s[:len(s)-1]), Mode: m}
}

func tidText(t api.Tid) string {
	if t.Node == 0 {
		return fmt.Sprint(t.Num)
	}
	return fmt.Sprintf("%d.%d", t.Num, t.Node)
}

func wantText(w Want) string {
	return tidText(w.Tid) + map[Mode]string{Read: "r", Write: "w"}[w.Mode]
}

func wantsText(list []Want) string {
	var out []string
	for _, w := range list {
		out = append(out, wantText(w))
	}
	return strings.Join(out, " ")
}

func grantsText(list []Grant) string {
	var out []string
	for _, g := range list {
		out = append(out, g.Key+":"+wantText(Want{g.Tid, g.Mode}))
	}
	return strings.Join(out, " ")
}

// asks asks for one key in the name of several, one behind the other: all get the same answer.
func (d desk) asks(k, wants string, answer Answer) {
	d.t.Helper()
	for _, s := range strings.Fields(wants) {
		w := wantOf(s)
		if got := d.l.Ask(w.Tid, k, w.Mode); got != answer {
			d.t.Errorf("%s asks for %s: %d, want %d", s, k, got, answer)
		}
	}
}

// frees lets a transaction go, and holds what is given then against a text such as "a:5r b:3w".
func (d desk) frees(tid, grants string) {
	d.t.Helper()
	if got := grantsText(d.l.Free(tidOf(tid))); got != grants {
		d.t.Errorf("Free(%s): %q, want %q", tid, got, grants)
	}
	d.sound()
}

// stands holds against texts who has a key, and who waits for it.
func (d desk) stands(k, has, waits string) {
	d.t.Helper()
	if got := wantsText(d.l.Has(k)); got != has {
		d.t.Errorf("Has(%s): %q, want %q", k, got, has)
	}
	if got := wantsText(d.l.Waiting(k)); got != waits {
		d.t.Errorf("Waiting(%s): %q, want %q", k, got, waits)
	}
	d.sound(k)
}

func (d desk) keys(tid, keys string) {
	d.t.Helper()
	if got := strings.Join(d.l.Keys(tidOf(tid)), " "); got != keys {
		d.t.Errorf("Keys(%s): %q, want %q", tid, got, keys)
	}
}

func (d desk) len(n int) {
	d.t.Helper()
	if got := d.l.Len(); got != n {
		d.t.Errorf("Len: %d, want %d", got, n)
	}
}

// sound looks at P12.3, and at what is so of any table, for some keys.
func (d desk) sound(keys ...string) {
	d.t.Helper()
	for _, k := range keys {
		has, waits := d.l.Has(k), d.l.Waiting(k)
		for i, w := range has {
			if i > 0 && !has[i-1].Tid.Elder(w.Tid) {
				d.t.Error(k, "isn't had in order", wantsText(has))
			}
			for _, o := range has[:i] {
				if o.Mode != Read || w.Mode != Read {
					d.t.Error(k, "is had by two", wantsText(has))
				}
			}
		}
		for i, w := range waits {
			for _, o := range append(slices.Clone(has), waits[:i]...) {
				if o.Tid != w.Tid && (o.Mode == Write || w.Mode == Write) && !w.Tid.Elder(o.Tid) {
					d.t.Error(k, "an elder one is waited for", wantsText(has), "/", wantsText(waits))
				}
			}
		}
		if len(has) == 0 && len(waits) > 0 {
			d.t.Error(k, "is waited for, and nobody has it", wantsText(waits))
		}
	}
}
