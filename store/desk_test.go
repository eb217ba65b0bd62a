package store

import (
	"fmt"
	"slices"
	"strings"
	"testing"

	"dockmaster/api"
	"dockmaster/disk"
	"dockmaster/rec"
	"dockmaster/space"
	"dockmaster/tree"
)

// bench is a disk, and the store on it.
type bench struct {
	t *testing.T
	d *disk.Disk
	c Conf
	s *Store
}

// newBench is a store on a new disk, that has some sectors more than it needs.
func newBench(t *testing.T, log, pages, room int) *bench {
	t.Helper()
	b := &bench{t: t, d: disk.New(log + pages + 3), c: Conf{Log: log, Pages: pages, Room: room}}
	b.open()
	return b
}

// wide is a bench where there is room for whatever a test does.
func wide(t *testing.T) *bench {
	t.Helper()
	return newBench(t, 4000, 1000, 4)
}

func (b *bench) open() {
	b.t.Helper()
	s, err := Open(b.d, b.c)
	if err != api.OK || s == nil {
		b.t.Fatal("Open", err)
	}
	b.s = s
}

// openFails opens the store, which isn't to be had.
func (b *bench) openFails(want api.Errno) {
	b.t.Helper()
	if s, err := Open(b.d, b.c); s != nil || err != want {
		b.t.Error("Open", s != nil, err, "want", want)
	}
}

// lose lets the power go, of what isn't safe nothing stays, and opens the store anew.
func (b *bench) lose() {
	b.t.Helper()
	b.d.On(nil, -1)
	b.open()
}

// oks holds answers against OK.
func (b *bench) oks(errs ...api.Errno) {
	b.t.Helper()
	for i, err := range errs {
		if err != api.OK {
			b.t.Error("answer", i, err)
		}
	}
}

// refused holds a call's answer against an error, and looks that it has changed nothing, on the disk neither.
func (b *bench) refused(what string, want api.Errno, call func() api.Errno) {
	b.t.Helper()
	before, steps := b.text(), b.d.Steps()
	if err := call(); err != want {
		b.t.Error(what, "answers", err, "want", want)
	}
	if steps != b.d.Steps() {
		b.t.Error(what, "has turned the disk")
	}
	is(b.t, what, b.text(), before)
}

// text is all that a store tells, and where its log stands.
func (b *bench) text() string {
	return fmt.Sprintln(b.s.log.Start(), b.s.log.Next(), b.opensText(), b.donesText(), b.mapText(), b.s.Life(), b.s.Dead())
}

func is(t *testing.T, what, got, want string) {
	t.Helper()
	if got != want {
		t.Errorf("%s:\n%s\nwant\n%s", what, got, want)
	}
}

// tid is a transaction of node 1.
func tid(n uint64) api.Tid { return api.Tid{Num: n, Node: 1} }

func tidText(t api.Tid) string { return fmt.Sprintf("%d.%d", t.Num, t.Node) }

// openText is Last, First, Count behind the transaction, ! if it is Ready, and the Reads.
func openText(o rec.Open) string {
	s := fmt.Sprintf("%s:%d,%d,%d", tidText(o.Tid), o.Last, o.First, o.Count)
	if o.Ready {
		s += "!"
	}
	return s + strings.Join(o.Reads, "+")
}

func doneText(d rec.Done) string {
	return strings.Join(strings.Fields(fmt.Sprint(tidText(d.Tid), d.Nodes)), ",")
}

func texts[T any](list []T, text func(T) string) string {
	var out []string
	for _, x := range list {
		out = append(out, text(x))
	}
	return strings.Join(out, " ")
}

func (b *bench) opensText() string { return texts(b.s.Opens(), openText) }
func (b *bench) donesText() string { return texts(b.s.Dones(), doneText) }

func (b *bench) opens(want string) {
	b.t.Helper()
	is(b.t, "Opens", b.opensText(), want)
}

func (b *bench) dones(want string) {
	b.t.Helper()
	is(b.t, "Dones", b.donesText(), want)
}

func (b *bench) mapText() string {
	m, err := b.s.Map()
	if err != api.OK {
		return fmt.Sprint("error ", err)
	}
	return texts(m, func(p api.Pair) string { return p.Key + "=" + p.Val })
}

// has holds all keys against what is expected: k=v, one behind the other; and each page against being one of the tree, free, or the meta page.
func (b *bench) has(want string) {
	b.t.Helper()
	is(b.t, "Map", b.mapText(), want)
	v, err := space.New(b.s.pool)
	if err != api.OK {
		b.t.Fatal("View", err)
	}
	pages, _, err := tree.Check(v)
	if err != api.OK || pages+v.Left() != b.c.Pages-1 {
		b.t.Error("pages", pages, "left", v.Left(), "of", b.c.Pages, err)
	}
}

func (b *bench) gets(k, want string) {
	b.t.Helper()
	if v, has, err := b.s.Get(k); v != want || !has || err != api.OK {
		b.t.Errorf("Get %q: %q %v %v, want %q", k, v, has, err, want)
	}
}

// getsNone asks for what isn't told, without an error or with one.
func (b *bench) getsNone(k string, want api.Errno) {
	b.t.Helper()
	if v, has, err := b.s.Get(k); v != "" || has || err != want {
		b.t.Errorf("Get %q: %q %v %v, want %v", k, v, has, err, want)
	}
}

func (b *bench) touched(t api.Tid, want string) {
	b.t.Helper()
	keys, err := b.s.Touched(t)
	if err != api.OK {
		b.t.Error("Touched", err)
	}
	is(b.t, "Touched", strings.Join(keys, " "), want)
}

func (b *bench) touchedFails(t api.Tid, want api.Errno) {
	b.t.Helper()
	if keys, err := b.s.Touched(t); len(keys) > 0 || err != want {
		b.t.Error("Touched", keys, err, "want", want)
	}
}

// recText is a record with its number, as short as can be; of its Pages the numbers alone.
func recText(n uint64, r rec.Rec) string {
	kinds := []string{"none", "Update", "Undo", "Prepare", "Commit", "Abort", "Decide", "End", "Check"}
	s := fmt.Sprint(n, " ", kinds[r.Kind], " ", tidText(r.Tid))
	switch r.Kind {
	case rec.Update:
		s += fmt.Sprintf(" %s was %v %q prev %d pages %v", r.Key, r.Was, r.Old, r.Prev, numbers(r.Pages))
	case rec.Undo:
		s += fmt.Sprintf(" prev %d pages %v", r.Prev, numbers(r.Pages))
	case rec.Prepare:
		s += fmt.Sprintf(" reads %v", r.Reads)
	case rec.Decide:
		s += fmt.Sprintf(" nodes %v", r.Nodes)
	case rec.Check:
		s = fmt.Sprintf("%d Check opens [%s] dones [%s]", n, texts(r.Opens, openText), texts(r.Dones, doneText))
	}
	return s
}

func numbers(pages []space.Change) []int {
	out := []int{}
	for _, c := range pages {
		out = append(out, c.N)
	}
	return out
}

// item is a record of the log, with its number.
type item struct {
	n uint64
	r rec.Rec
}

func (b *bench) items() []item {
	b.t.Helper()
	var all []item
	for n, bytes := range b.s.log.All(b.s.log.Start()) {
		r, err := rec.Decode(bytes)
		if err != api.OK {
			b.t.Fatal("Decode", err)
		}
		all = append(all, item{n, r})
	}
	return all
}

// log holds the whole log against what is expected, and each page that its last records turned against what the pool has.
func (b *bench) log(want ...string) {
	b.t.Helper()
	var got []string
	turned := map[int]item{}
	for _, x := range b.items() {
		got = append(got, recText(x.n, x.r))
		for _, c := range x.r.Pages {
			turned[c.N] = item{x.n, rec.Rec{Pages: []space.Change{c}}}
		}
	}
	is(b.t, "the log", strings.Join(got, "\n"), strings.Join(want, "\n"))
	for n, x := range turned {
		p, lsn, err := b.s.pool.Load(n)
		if err != api.OK || lsn != x.n || !p.Same(x.r.Pages[0].P) {
			b.t.Error("page", n, p, lsn, err, "want", x.r.Pages[0].P, x.n)
		}
	}
}

// count is how many records of a kind the log has.
func (b *bench) count(kind int) int {
	b.t.Helper()
	n := 0
	for _, x := range b.items() {
		if x.r.Kind == kind {
			n++
		}
	}
	return n
}

// safe tells whether all that was written is.
func (b *bench) safe() bool { return b.d.Waits() == 0 && b.s.log.Safe() == b.s.log.Next() }

// free is how many sectors of the log are, beside what the document sets aside.
func (b *bench) free() int {
	n := b.s.log.Free()
	for _, o := range b.s.Opens() {
		n -= 8 + 29*o.Count
	}
	return n
}

// fill lays records that say nothing, until so many sectors are free beside what is set aside.
func (b *bench) fill(free int) {
	b.t.Helper()
	if b.free() < free {
		b.t.Fatal("there is less room than", free, "already:", b.free())
	}
	for b.free() > free {
		if _, err := b.s.lay(rec.Rec{Kind: rec.End, Tid: tid(1 << 40)}); err != api.OK {
			b.t.Fatal("fill", err)
		}
	}
}

// puts puts the i-th of some keys, for each, by a transaction, which is committed then.
func (b *bench) puts(t api.Tid, count int) {
	b.t.Helper()
	for i := range count {
		b.oks(b.s.Put(t, keyOf(i), fmt.Sprint(i)))
	}
	b.oks(b.s.Prepare(t, nil), b.s.Commit(t))
}

func keyOf(i int) string { return fmt.Sprintf("k%03d", i) }

// all is the Map's text of what puts leaves.
func all(count int) string {
	var out []string
	for i := range count {
		out = append(out, fmt.Sprint(keyOf(i), "=", i))
	}
	return strings.Join(out, " ")
}

// lay writes records to the log of a new disk, by another hand, and is a bench of that, without a store.
func lay(t *testing.T, c Conf, recs ...rec.Rec) *bench {
	t.Helper()
	b := newBench(t, c.Log, c.Pages, c.Room)
	b.oks(b.s.log.Cut(b.s.log.Next()))
	b.layMore(recs...)
	return b
}

// layMore writes records behind those that the log has.
func (b *bench) layMore(recs ...rec.Rec) {
	b.t.Helper()
	for _, r := range recs {
		if _, err := b.s.lay(r); err != api.OK {
			b.t.Fatal("lay", err, recText(0, r))
		}
	}
	b.oks(b.s.log.Force())
}

// reads is so many keys that rise.
func reads(count int) []string {
	out := []string{}
	for i := range count {
		out = append(out, keyOf(i))
	}
	return out
}

// twice is a list, its end ahead, each of them twice.
func twice[T any](list []T) []T {
	out := slices.Concat(list, list)
	slices.Reverse(out)
	return out
}

func list[T any](some ...T) []T { return some }
