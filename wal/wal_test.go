package wal

import (
	"bytes"
	"encoding/binary"
	"fmt"
	"math"
	"slices"
	"strings"
	"testing"

	"dockmaster/api"
	"dockmaster/disk"
)

// laid is numbers one behind the other.
func laid(ns ...uint64) []byte {
	b := []byte{}
	for _, n := range ns {
		b = binary.AppendUvarint(b, n)
	}
	return b
}

// masterBytes is a master sector's beginning, by the chapter's words.
func masterBytes(writing, life, first, least uint64) []byte {
	return append([]byte("\x04dock"), laid(writing, life, first, least)...)
}

// ringBytes is a ring sector's beginning, by the chapter's words.
func ringBytes(number, life, last uint64, text string) []byte {
	return append(laid(number+1, life, last, uint64(len(text))), text...)
}

// lay writes a sector, and lets it be safe.
func lay(t *testing.T, d *disk.Disk, at int, b []byte) {
	t.Helper()
	if err := d.Write(at, b); err != api.OK {
		t.Fatal("Write", at, err)
	}
	if err := d.Sync(); err != api.OK {
		t.Fatal("Sync", err)
	}
}

// tear lets a sector be torn.
func tear(t *testing.T, d *disk.Disk, at int) {
	t.Helper()
	d.Sync()
	d.Write(at, nil)
	d.On(nil, 0)
	if _, err := d.Read(at); err != api.ErrTorn {
		t.Fatal("sector", at, "isn't torn", err)
	}
}

// begins asks that a sector has these bytes, and noughts behind.
func begins(t *testing.T, d *disk.Disk, at int, want []byte) {
	t.Helper()
	whole := append(slices.Clone(want), make([]byte, api.Sector-len(want))...)
	if b, err := d.Read(at); err != api.OK || !bytes.Equal(b, whole) {
		t.Errorf("sector %d: %d, %.40x, want %.40x", at, err, b, whole)
	}
}

func open(t *testing.T, d *disk.Disk, from, n int) *Log {
	t.Helper()
	l, err := Open(d, from, n)
	if err != api.OK || l == nil {
		t.Fatal("Open", from, n, err)
	}
	return l
}

func add(t *testing.T, l *Log, s string) uint64 {
	t.Helper()
	next := l.Next()
	n, err := l.Append([]byte(s))
	if err != api.OK || n != next {
		t.Fatalf("Append of %d bytes: %d, %d, want %d", len(s), n, err, next)
	}
	return n
}

func force(t *testing.T, l *Log) {
	t.Helper()
	if err := l.Force(); err != api.OK {
		t.Fatal("Force", err)
	}
}

func cut(t *testing.T, l *Log, lsn uint64) {
	t.Helper()
	if err := l.Cut(lsn); err != api.OK {
		t.Fatal("Cut", lsn, err)
	}
}

// item is an entry with its number.
type item struct {
	number uint64
	text   string
}

func items(l *Log, from uint64) []item {
	list := []item{}
	for n, b := range l.All(from) {
		list = append(list, item{n, string(b)})
	}
	return list
}

// has asks a log for all its entries.
func has(t *testing.T, l *Log, want ...item) {
	t.Helper()
	if got := items(l, l.Start()); !slices.Equal(got, want) {
		t.Errorf("entries %.90s, want %.90s", fmt.Sprint(got), fmt.Sprint(want))
	}
}

// stands asks a log for its numbers.
func stands(t *testing.T, l *Log, start, next, safe, life uint64) {
	t.Helper()
	if l.Start() != start || l.Next() != next || l.Safe() != safe || l.Life() != life {
		t.Errorf("start %d, next %d, safe %d, life %d, want %d, %d, %d, %d", l.Start(), l.Next(), l.Safe(), l.Life(), start, next, safe, life)
	}
	if free := l.Room() - int(next-start); l.Free() != free {
		t.Errorf("free %d, want %d", l.Free(), free)
	}
}

func long(c string, n int) string {
	return strings.Repeat(c, n)
}

// P5.1: which sectors a log may have; nothing is done to the disk where it may not.
func TestOpenBounds(t *testing.T) {
	for _, c := range []struct {
		from, n int
		want    api.Errno
	}{
		{0, math.MinInt, api.ErrArg}, {0, -1, api.ErrArg}, {0, 0, api.ErrArg}, {0, 1, api.ErrArg}, {0, 2, api.ErrArg},
		{0, 3, api.OK}, {0, 10, api.OK}, {0, 11, api.ErrArg}, {0, math.MaxInt, api.ErrArg},
		{7, 2, api.ErrArg}, {7, 3, api.OK}, {7, 4, api.ErrArg}, {8, 3, api.ErrArg}, {1, 9, api.OK}, {1, 10, api.ErrArg},
		{-1, 3, api.ErrArg}, {-1, 11, api.ErrArg}, {math.MinInt, 3, api.ErrArg}, {math.MinInt, math.MaxInt, api.ErrArg},
		{math.MaxInt, 3, api.ErrArg}, {math.MaxInt, math.MaxInt, api.ErrArg}, {10, 3, api.ErrArg}, {11, 3, api.ErrArg},
	} {
		d := disk.New(10)
		l, err := Open(d, c.from, c.n)
		if err != c.want || (l == nil) != (err != api.OK) {
			t.Error("Open", c.from, c.n, err)
		}
		if c.want != api.OK && d.Steps() != 0 {
			t.Error("steps", c.from, c.n)
		}
		if c.want == api.OK && l.Room() != c.n-2 {
			t.Error("Room", c.from, c.n, l.Room())
		}
		d.Off()
		if l, err := Open(d, c.from, c.n); l != nil || c.want == api.OK && err != api.ErrDown || c.want != api.OK && err != c.want {
			t.Error("Open without power", c.from, c.n, err)
		}
	}
	if l, err := Open(nil, 0, 3); l != nil || err != api.ErrArg {
		t.Error("Open of a nil Disk", err)
	}
	if l, err := Open(&disk.Disk{}, 0, 3); l != nil || err != api.ErrArg {
		t.Error("Open of a Disk without sectors", err)
	}
}

// P5.1, P5.3: on a new disk: one write and a Sync, the first writing in master 1, nothing else.
func TestOpenNew(t *testing.T) {
	d := disk.New(9)
	l := open(t, d, 2, 5)
	stands(t, l, 0, 0, 0, 1)
	has(t, l)
	if d.Steps() != 2 || d.Waits() != 0 || l.Room() != 3 || l.Free() != 3 {
		t.Error(d.Steps(), d.Waits(), l.Room(), l.Free())
	}
	for at := range 9 {
		want := []byte{}
		if at == 3 {
			want = masterBytes(1, 1, 0, 1)
		}
		begins(t, d, at, want)
	}
}

// P5.1: each Open is a new life, written to the other master: with a new least life, as long as there are no entries.
func TestOpenAgain(t *testing.T) {
	d := disk.New(8)
	for k := uint64(1); k < 6; k++ {
		stands(t, open(t, d, 0, 8), 0, 0, 0, k)
		begins(t, d, int(k%2), masterBytes(k, k, 0, k))
	}
	l := open(t, d, 0, 8)
	begins(t, d, 0, masterBytes(6, 6, 0, 6))
	add(t, l, "a")
	for k := uint64(7); k < 12; k++ {
		l = open(t, d, 0, 8)
		stands(t, l, 0, 1, 1, k)
		begins(t, d, int(k%2), masterBytes(k, k, 0, 6))
		begins(t, d, int((k-1)%2), masterBytes(k-1, k-1, 0, 6))
		has(t, l, item{0, "a"})
	}
	begins(t, d, 2, ringBytes(0, 6, 1, "a"))
}

// P5.1: which master counts, and which says nothing.
func TestMasters(t *testing.T) {
	const most = 1<<62 - 1
	none := []byte{}
	for i, c := range []struct {
		zero, one            []byte
		writing, life, first uint64 // of the writing that counts; 0: none
	}{
		{none, none, 0, 0, 0},
		{masterBytes(2, 5, 7, 5), none, 2, 5, 7},
		{none, masterBytes(1, 5, 7, 5), 1, 5, 7},
		{masterBytes(2, 5, 7, 5), masterBytes(1, 9, 8, 9), 2, 5, 7},
		{masterBytes(2, 5, 7, 5), masterBytes(3, 4, 3, 4), 3, 4, 3},
		{masterBytes(1<<40, 5, 7, 5), masterBytes(3, 9, 8, 9), 1 << 40, 5, 7},
		// not its own modulo 2
		{masterBytes(1, 5, 7, 5), none, 0, 0, 0},
		{none, masterBytes(2, 5, 7, 5), 0, 0, 0},
		{masterBytes(9, 5, 7, 5), masterBytes(1, 4, 3, 4), 1, 4, 3},
		{masterBytes(2, 4, 3, 4), masterBytes(8, 5, 7, 5), 2, 4, 3},
		// of writing 0
		{masterBytes(0, 5, 7, 5), none, 0, 0, 0},
		{masterBytes(0, 5, 7, 5), masterBytes(0, 5, 7, 5), 0, 0, 0},
		// first entries
		{masterBytes(2, 5, most, 5), masterBytes(1, 4, 3, 4), 2, 5, most},
		{masterBytes(2, 5, most+1, 5), masterBytes(1, 4, 3, 4), 1, 4, 3},
		{masterBytes(2, 5, math.MaxUint64, 5), none, 0, 0, 0},
		// lives
		{masterBytes(2, MaxLife-1, 7, 5), masterBytes(1, 4, 3, 4), 2, MaxLife - 1, 7},
		{masterBytes(2, MaxLife+1, 7, 5), masterBytes(1, 4, 3, 4), 1, 4, 3},
		{masterBytes(2, math.MaxUint64, 7, 5), none, 0, 0, 0},
		{masterBytes(2, 5, 7, MaxLife-1), masterBytes(1, 4, 3, 4), 2, MaxLife - 1, 7},
		{masterBytes(2, 5, 7, MaxLife+1), masterBytes(1, 4, 3, 4), 1, 4, 3},
		{masterBytes(2, 5, 7, 6), none, 2, 6, 7},
		{masterBytes(2, 0, 7, 0), none, 2, 0, 7},
		// forms
		{[]byte("dock\x02\x05\x07\x05"), none, 0, 0, 0},
		{[]byte("\x04Dock\x02\x05\x07\x05"), none, 0, 0, 0},
		{[]byte("\x03doc\x02\x05\x07\x05"), none, 0, 0, 0},
		{[]byte("\x05docks\x02\x05\x07\x05"), none, 0, 0, 0},
		{[]byte("\x04dock\x82\x00\x05\x07\x05"), none, 0, 0, 0},
		{[]byte("\x04dock\x02\x85\x00\x07\x05"), none, 0, 0, 0},
		{[]byte("\x04dock\x02\x05\x87\x00\x05"), none, 0, 0, 0},
		{[]byte("\x04dock\x02\x05\x07\x85\x00"), none, 0, 0, 0},
		{append([]byte("\x04dock"), bytes.Repeat([]byte{0xff}, 507)...), none, 0, 0, 0},
		{bytes.Repeat([]byte{0xff}, api.Sector), masterBytes(1, 4, 3, 4), 1, 4, 3},
	} {
		d := disk.New(6)
		lay(t, d, 1, c.zero)
		lay(t, d, 2, c.one)
		l := open(t, d, 1, 5)
		stands(t, l, c.first, c.first, c.first, c.life+1)
		k := c.writing + 1
		begins(t, d, 1+int(k%2), masterBytes(k, c.life+1, c.first, c.life+1))
		if t.Failed() {
			t.Fatal("masters", i)
		}
	}
}

// P5.1: a torn master says nothing, and is written over first.
func TestTornMasters(t *testing.T) {
	for which := range 2 {
		d := disk.New(5)
		l := open(t, d, 0, 5)
		add(t, l, "a")
		add(t, l, "b")
		l = open(t, d, 0, 5)
		cut(t, l, 1)
		begins(t, d, 0, masterBytes(2, 2, 0, 1))
		begins(t, d, 1, masterBytes(3, 2, 1, 1))
		tear(t, d, which)
		l = open(t, d, 0, 5)
		begins(t, d, which, masterBytes(uint64(4-which), 3, uint64(1-which), 1))
		if which == 0 {
			has(t, l, item{1, "b"})
		} else {
			has(t, l, item{0, "a"}, item{1, "b"})
		}
	}
	d := disk.New(5)
	l := open(t, d, 0, 5)
	add(t, l, "a")
	open(t, d, 0, 5)
	tear(t, d, 0)
	tear(t, d, 1)
	l = open(t, d, 0, 5)
	stands(t, l, 0, 1, 1, 2)
	has(t, l, item{0, "a"})
	begins(t, d, 1, masterBytes(1, 2, 0, 0))
}

// P5.1: the life is one more than the greatest of the master's, its least one, and the last entry's; at MaxLife there is none more.
func TestLives(t *testing.T) {
	for _, c := range []struct {
		life, least uint64
		entries     []uint64
		want        uint64 // 0: ErrMany
	}{
		{3, 2, []uint64{2}, 4},
		{2, 4, nil, 5},
		{2, 2, []uint64{5}, 6},
		{2, 2, []uint64{5, 7, 7}, 8},
		{4, 2, []uint64{2, 3}, 5},
		{0, 0, []uint64{0}, 1},
		{MaxLife - 2, 1, nil, MaxLife - 1},
		{MaxLife - 1, 1, nil, MaxLife},
		{MaxLife, 1, nil, 0},
		{1, MaxLife - 1, nil, MaxLife},
		{1, MaxLife, nil, 0},
		{1, 1, []uint64{1, MaxLife - 1}, MaxLife},
		{1, 1, []uint64{1, MaxLife}, 0},
		{1, 1, []uint64{1, MaxLife + 1}, 2},
	} {
		d := disk.New(8)
		lay(t, d, 0, masterBytes(2, c.life, 0, c.least))
		for i, life := range c.entries {
			lay(t, d, 2+i, ringBytes(uint64(i), life, 1, "e"))
		}
		steps := d.Steps()
		l, err := Open(d, 0, 8)
		if c.want == 0 {
			if err != api.ErrMany || l != nil || d.Steps() != steps || d.Waits() != 0 {
				t.Error("Open", c, err)
			}
			continue
		}
		if err != api.OK || l.Life() != c.want || d.Steps() != steps+2 {
			t.Error("Open", c, err)
		}
	}
	d := disk.New(4)
	lay(t, d, 0, masterBytes(2, MaxLife-1, 0, 1))
	l := open(t, d, 0, 4)
	add(t, l, "last")
	has(t, l, item{0, "last"})
	if l, err := Open(d, 0, 4); err != api.ErrMany || l != nil {
		t.Error("Open behind the last life", err)
	}
}

// P5.1: which entries are whole: told by the sectors of a ring of 6 from number 3 on, whose first life is 5.
func TestWhole(t *testing.T) {
	full := long("f", Chunk)
	for i, c := range []struct {
		ring [][]byte // numbers 3, 4 and so on
		want []item
		next uint64
	}{
		{nil, nil, 3},
		{[][]byte{ringBytes(3, 5, 1, "a")}, []item{{3, "a"}}, 4},
		{[][]byte{ringBytes(3, 5, 1, ""), ringBytes(4, 6, 1, full)}, []item{{3, ""}, {4, full}}, 5},
		// lives
		{[][]byte{ringBytes(3, 4, 1, "a")}, nil, 3},
		{[][]byte{ringBytes(3, 0, 1, "a")}, nil, 3},
		{[][]byte{ringBytes(3, 7, 1, "a"), ringBytes(4, 6, 1, "b")}, []item{{3, "a"}}, 4},
		{[][]byte{ringBytes(3, 6, 1, "a"), ringBytes(4, 6, 1, "b"), ringBytes(5, 7, 1, "c"), ringBytes(6, 6, 1, "d")}, []item{{3, "a"}, {4, "b"}, {5, "c"}}, 6},
		{[][]byte{ringBytes(3, 5, 0, full), ringBytes(4, 5, 1, "b")}, []item{{3, full + "b"}}, 5},
		{[][]byte{ringBytes(3, 5, 0, full), ringBytes(4, 6, 1, "b")}, nil, 3},
		{[][]byte{ringBytes(3, 6, 0, full), ringBytes(4, 5, 1, "b")}, nil, 3},
		{[][]byte{ringBytes(3, 5, 1, "a"), ringBytes(4, MaxLife+1, 1, "b")}, []item{{3, "a"}}, 4},
		// numbers
		{[][]byte{ringBytes(2, 5, 1, "a")}, nil, 3},
		{[][]byte{ringBytes(4, 5, 1, "a")}, nil, 3},
		{[][]byte{ringBytes(9, 5, 1, "a")}, nil, 3},
		{[][]byte{ringBytes(3, 5, 1, "a"), ringBytes(10, 5, 1, "b")}, []item{{3, "a"}}, 4},
		{[][]byte{ringBytes(3, 5, 1, "a"), ringBytes(4, 5, 0, full), ringBytes(4, 5, 1, "b")}, []item{{3, "a"}}, 4},
		{[][]byte{ringBytes(3, 5, 1, "a"), nil, ringBytes(5, 5, 1, "c")}, []item{{3, "a"}}, 4},
		// last or not
		{[][]byte{ringBytes(3, 5, 2, "a")}, nil, 3},
		{[][]byte{ringBytes(3, 5, 0, "a"), ringBytes(4, 5, 1, "b")}, nil, 3},
		{[][]byte{ringBytes(3, 5, 0, full[1:]), ringBytes(4, 5, 1, "b")}, nil, 3},
		{[][]byte{ringBytes(3, 5, 0, full)}, nil, 3},
		// all round, and more than that
		{[][]byte{ringBytes(3, 5, 0, full), ringBytes(4, 5, 0, full), ringBytes(5, 5, 0, full), ringBytes(6, 5, 0, full), ringBytes(7, 5, 0, full), ringBytes(8, 5, 1, "z")}, []item{{3, long("f", 5*Chunk) + "z"}}, 9},
		{[][]byte{ringBytes(3, 5, 0, full), ringBytes(4, 5, 0, full), ringBytes(5, 5, 0, full), ringBytes(6, 5, 0, full), ringBytes(7, 5, 0, full), ringBytes(8, 5, 0, full)}, nil, 3},
		{[][]byte{ringBytes(3, 5, 1, "a"), ringBytes(4, 5, 1, "b"), ringBytes(5, 5, 1, "c"), ringBytes(6, 5, 1, "d"), ringBytes(7, 5, 1, "e"), ringBytes(8, 5, 1, "f")}, []item{{3, "a"}, {4, "b"}, {5, "c"}, {6, "d"}, {7, "e"}, {8, "f"}}, 9},
		// forms
		{[][]byte{ringBytes(3, 5, 1, full+"f")}, nil, 3},
		{[][]byte{append(laid(4, 5, 1, Chunk+1), full...)}, nil, 3},
		{[][]byte{{0x84, 0, 5, 1, 1, 'a'}}, nil, 3},
		{[][]byte{{4, 0x85, 0, 1, 1, 'a'}}, nil, 3},
		{[][]byte{{4, 5, 0x81, 0, 1, 'a'}}, nil, 3},
		{[][]byte{{4, 5, 1, 0x81, 0, 'a'}}, nil, 3},
		{[][]byte{bytes.Repeat([]byte{0xff}, api.Sector)}, nil, 3},
	} {
		d := disk.New(8)
		lay(t, d, 0, masterBytes(2, 5, 3, 5))
		for j, b := range c.ring {
			lay(t, d, 2+(3+j)%6, b)
		}
		l := open(t, d, 0, 8)
		has(t, l, c.want...)
		if l.Start() != 3 || l.Next() != c.next || l.Safe() != c.next {
			t.Error("start", l.Start(), "next", l.Next(), "safe", l.Safe(), "want", c.next)
		}
		if t.Failed() {
			t.Fatal("ring", i)
		}
	}
}

// P5.1: a torn sector of the ring ends what is whole; it is no error, and is written over.
func TestTornRing(t *testing.T) {
	for torn := range 4 {
		d := disk.New(8)
		l := open(t, d, 0, 8)
		add(t, l, "a")
		add(t, l, long("b", 2*Chunk))
		add(t, l, "c")
		force(t, l)
		tear(t, d, 2+torn)
		want := []item{{0, "a"}, {1, long("b", 2*Chunk)}}
		want = want[:[]int{0, 1, 1, 2}[torn]]
		next := []uint64{0, 1, 1, 3}[torn]
		l = open(t, d, 0, 8)
		has(t, l, want...)
		stands(t, l, 0, next, next, 2)
		if n := add(t, l, long("x", 3*Chunk)); n != next {
			t.Error("Append", n)
		}
		has(t, open(t, d, 0, 8), append(want, item{next, long("x", 3*Chunk)})...)
	}
}

// P5.1: the power goes at the write or at the Sync of Open: its error, and a Log beside it, of which no call panics.
func TestOpenCutOff(t *testing.T) {
	for fuse := 1; fuse <= 2; fuse++ {
		for _, stays := range []bool{false, true} {
			d := disk.New(6)
			add(t, open(t, d, 0, 6), "a")
			d.Sync()
			d.Fuse(fuse)
			l, err := Open(d, 0, 6)
			if err != api.ErrDown || l == nil {
				t.Fatal("Open", fuse, err)
			}
			l.Append([]byte("b"))
			l.Force()
			l.Cut(1)
			items(l, 0)
			d.On([]bool{stays}, -1)
			l = open(t, d, 0, 6)
			has(t, l, item{0, "a"})
			want := uint64(2)
			if stays {
				want = 3
			}
			stands(t, l, 0, 1, 1, want)
		}
	}
}

// P5.2: how many sectors an entry takes.
func TestNeed(t *testing.T) {
	for n, want := range map[int]int{
		math.MinInt: 1, -Chunk - 1: 1, -1: 1, 0: 1, 1: 1, 479: 1, 480: 1, 481: 2, 959: 2, 960: 2, 961: 3,
		Most - 1: 35, Most: 35, Most + 1: 35, 35 * 480: 35, 35*480 + 1: 36, math.MaxInt: math.MaxInt/480 + 1,
	} {
		if got := Need(n); got != want {
			t.Error("Need", n, got, want)
		}
	}
}

// P5.2: how an entry stands on the disk: at the edges of its sectors, and round the ring.
func TestAppendLays(t *testing.T) {
	for n, need := range map[int]int{0: 1, 1: 1, 480: 1, 481: 2, 960: 2, 961: 3, Most: 35} {
		d := disk.New(50)
		l := open(t, d, 1, 40)
		add(t, l, "ahead")
		s := long("abcdefg", n)[:n]
		steps := d.Steps()
		if at := add(t, l, s); at != 1 || l.Next() != uint64(1+need) || d.Steps() != steps+need || d.Waits() != 1+need {
			t.Error("Append", n, at, l.Next(), d.Steps()-steps)
		}
		for i := range need {
			last := uint64(0)
			if i == need-1 {
				last = 1
			}
			begins(t, d, 4+i, ringBytes(uint64(1+i), 1, last, s[i*480:min(n, i*480+480)]))
		}
		begins(t, d, 4+need, nil)
		has(t, l, item{0, "ahead"}, item{1, s})
		has(t, open(t, d, 1, 40), item{0, "ahead"}, item{1, s})
	}
	d := disk.New(6)
	l := open(t, d, 0, 6)
	add(t, l, long("a", 3*Chunk))
	cut(t, l, 3)
	add(t, l, long("b", 2*Chunk)+"c")
	begins(t, d, 5, ringBytes(3, 1, 0, long("b", Chunk)))
	begins(t, d, 2, ringBytes(4, 1, 0, long("b", Chunk)))
	begins(t, d, 3, ringBytes(5, 1, 1, "c"))
	begins(t, d, 4, ringBytes(2, 1, 1, long("a", Chunk)))
}

// P5.2: an entry that is too long, or for which there is no room: nothing is written.
func TestAppendRefuses(t *testing.T) {
	d := disk.New(40)
	l := open(t, d, 0, 38)
	add(t, l, "a")
	steps := d.Steps()
	for _, n := range []int{Most + 1, Most + 480, 1 << 20} {
		if at, err := l.Append(make([]byte, n)); at != 0 || err != api.ErrArg {
			t.Error("Append", n, at, err)
		}
	}
	if d.Steps() != steps || l.Next() != 1 {
		t.Error("something was written")
	}
	add(t, l, long("m", Most))
	if l.Free() != 0 {
		t.Fatal("Free", l.Free())
	}
	steps = d.Steps()
	for _, n := range []int{0, 1, 481, Most} {
		if at, err := l.Append(make([]byte, n)); at != 0 || err != api.ErrFull {
			t.Error("Append", n, at, err)
		}
	}
	if _, err := l.Append(make([]byte, Most+1)); err != api.ErrArg {
		t.Error("ErrArg comes first", err)
	}
	d.Off()
	if _, err := l.Append(nil); err != api.ErrFull {
		t.Error("ErrFull comes ahead of the disk's error", err)
	}
	d.On([]bool{}, -1)
	if d.Steps() != steps || l.Next() != 36 {
		t.Error("something was written")
	}
}

// P5.2: just as many sectors as are Free can be had, no more; a ring of one sector has room for one.
func TestFull(t *testing.T) {
	d := disk.New(6)
	l := open(t, d, 0, 6)
	add(t, l, "a")
	if _, err := l.Append([]byte(long("b", 3*Chunk+1))); err != api.ErrFull {
		t.Error("Append", err)
	}
	add(t, l, long("b", 3*Chunk))
	stands(t, l, 0, 4, 0, 1)
	cut(t, l, 1)
	if _, err := l.Append([]byte(long("c", Chunk+1))); err != api.ErrFull {
		t.Error("Append", err)
	}
	add(t, l, "c")
	has(t, l, item{1, long("b", 3*Chunk)}, item{4, "c"})
	has(t, open(t, d, 0, 6), item{1, long("b", 3*Chunk)}, item{4, "c"})

	d = disk.New(3)
	l = open(t, d, 0, 3)
	for n := range uint64(5) {
		if _, err := l.Append(make([]byte, Chunk+1)); err != api.ErrFull {
			t.Error("Append", err)
		}
		add(t, l, "x")
		if _, err := l.Append(nil); err != api.ErrFull {
			t.Error("Append", err)
		}
		l = open(t, d, 0, 3)
		has(t, l, item{n, "x"})
		stands(t, l, n, n+1, n+1, n+2)
		cut(t, l, n+1)
		has(t, l)
	}
}

// P5.2: the disk's error at each write of an entry.
func TestAppendDown(t *testing.T) {
	for fuse := 1; fuse <= 4; fuse++ {
		d := disk.New(9)
		l := open(t, d, 0, 9)
		add(t, l, "a")
		force(t, l)
		if fuse > 3 {
			d.Off()
		}
		d.Fuse(fuse)
		if at, err := l.Append([]byte(long("b", 3*Chunk))); at != 0 || err != api.ErrDown {
			t.Error("Append", fuse, at, err)
		}
		stands(t, l, 0, 1, 1, 1)
	}
}

// P5.2: what is handed in is neither changed nor kept, what is told is new memory.
func TestMemoryIsApart(t *testing.T) {
	d := disk.New(8)
	l := open(t, d, 0, 8)
	b := []byte(long("a", Chunk+3))
	l.Append(b)
	if string(b) != long("a", Chunk+3) {
		t.Error("the argument was changed")
	}
	clear(b)
	has(t, l, item{0, long("a", Chunk+3)})
	for _, b := range l.All(0) {
		clear(b)
	}
	has(t, l, item{0, long("a", Chunk+3)})
}

// P5.2: Force is a Sync, if anything isn't safe; else it is nothing, even without power.
func TestForce(t *testing.T) {
	d := disk.New(8)
	l := open(t, d, 0, 8)
	force(t, l)
	if d.Steps() != 2 {
		t.Error("a Sync of nothing")
	}
	add(t, l, "a")
	add(t, l, long("b", Chunk+1))
	stands(t, l, 0, 3, 0, 1)
	force(t, l)
	stands(t, l, 0, 3, 3, 1)
	if d.Steps() != 6 || d.Waits() != 0 {
		t.Error("no Sync", d.Steps(), d.Waits())
	}
	force(t, l)
	d.Off()
	force(t, l)
	d.On(nil, -1)
	if d.Steps() != 6 {
		t.Error("a Sync of nothing")
	}
	has(t, l, item{0, "a"}, item{1, long("b", Chunk+1)})
	add(t, l, "c")
	for range 2 {
		d.Fuse(1)
		if err := l.Force(); err != api.ErrDown {
			t.Error("Force", err)
		}
		stands(t, l, 0, 4, 3, 1)
	}
}

// P5.2: Cut, with what is written: at Start, between, at Next; and its bounds.
func TestCut(t *testing.T) {
	d := disk.New(12)
	add(t, open(t, d, 1, 9), "a")
	l := open(t, d, 1, 9)
	add(t, l, long("b", Chunk+1))
	l = open(t, d, 1, 9)
	add(t, l, "c")
	begins(t, d, 2, masterBytes(3, 3, 0, 1))

	steps := d.Steps()
	cut(t, l, 0)
	stands(t, l, 0, 4, 4, 3)
	cut(t, l, 0)
	if d.Steps() != steps+1 || d.Waits() != 0 {
		t.Error("Cut at Start", d.Steps()-steps)
	}
	cut(t, l, 1)
	if d.Steps() != steps+3 || d.Waits() != 0 {
		t.Error("Cut", d.Steps()-steps)
	}
	stands(t, l, 1, 4, 4, 3)
	begins(t, d, 1, masterBytes(4, 3, 1, 2))
	has(t, l, item{1, long("b", Chunk+1)}, item{3, "c"})
	for _, lsn := range []uint64{0, 5, 1 << 32, math.MaxUint64} {
		if err := l.Cut(lsn); err != api.ErrArg {
			t.Error("Cut", lsn, err)
		}
	}
	add(t, l, "d")
	steps = d.Steps()
	cut(t, l, 3)
	if d.Steps() != steps+3 || d.Waits() != 0 {
		t.Error("Cut with what isn't safe", d.Steps()-steps)
	}
	stands(t, l, 3, 5, 5, 3)
	begins(t, d, 2, masterBytes(5, 3, 3, 3))
	has(t, l, item{3, "c"}, item{4, "d"})
	cut(t, l, 5)
	stands(t, l, 5, 5, 5, 3)
	begins(t, d, 1, masterBytes(6, 3, 5, 3))
	has(t, l)
	cut(t, l, 5)
	begins(t, d, 2, masterBytes(5, 3, 3, 3))
	l = open(t, d, 1, 9)
	stands(t, l, 5, 5, 5, 4)
	begins(t, d, 2, masterBytes(7, 4, 5, 4))
	begins(t, d, 0, nil)
	begins(t, d, 10, nil)
}

// P5.2: Cut at the end tells the log's life as the least one, whatever lives its entries had.
func TestCutAtEnd(t *testing.T) {
	d := disk.New(6)
	add(t, open(t, d, 0, 6), "a")
	open(t, d, 0, 6)
	l := open(t, d, 0, 6)
	cut(t, l, 1)
	begins(t, d, 0, masterBytes(4, 3, 1, 3))
	add(t, l, "b")
	has(t, open(t, d, 0, 6), item{1, "b"})
}

// P5.2: errors of Cut: its bounds come first, then Force's, then those of the master's writing; Start stays.
func TestCutDown(t *testing.T) {
	for fuse := 1; fuse <= 3; fuse++ {
		d := disk.New(8)
		l := open(t, d, 0, 8)
		add(t, l, "a")
		add(t, l, "b")
		d.Fuse(fuse)
		if err := l.Cut(1); err != api.ErrDown {
			t.Error("Cut", fuse, err)
		}
		safe := uint64(2)
		if fuse == 1 {
			safe = 0
		}
		stands(t, l, 0, 2, safe, 1)
		if err := l.Cut(3); err != api.ErrArg {
			t.Error("Cut", err)
		}
		if err := l.Cut(1); err != api.ErrDown {
			t.Error("Cut without power", err)
		}
		if err := l.Cut(0); (err == api.OK) != (fuse > 1) {
			t.Error("Cut at Start without power", err)
		}
	}
}

// P5.2: a Cut that failed is done again in the same master: the one that counts isn't lost.
func TestCutAgain(t *testing.T) {
	d := disk.New(8)
	l := open(t, d, 0, 8)
	add(t, l, "a")
	add(t, l, "b")
	force(t, l)
	d.Fuse(1)
	l.Cut(1)
	d.On(nil, 0)
	begins(t, d, 1, masterBytes(1, 1, 0, 1))
	cut(t, l, 2)
	begins(t, d, 0, masterBytes(2, 1, 2, 1))
	begins(t, d, 1, masterBytes(1, 1, 0, 1))
}

// P5.3: All, from each entry on; from where none is; left early, gone through again, and behind more entries.
func TestAll(t *testing.T) {
	d := disk.New(12)
	l := open(t, d, 0, 12)
	want := []item{{0, "a"}, {1, long("b", 2*Chunk)}, {3, ""}, {4, "d"}}
	for _, e := range want {
		add(t, l, e.text)
	}
	for i, e := range want {
		if got := items(l, e.number); !slices.Equal(got, want[i:]) {
			t.Error("All", e.number)
		}
	}
	for _, from := range []uint64{5, 6, 14, 1 << 40, math.MaxUint64} {
		if got := items(l, from); len(got) != 0 {
			t.Error("All", from, got)
		}
	}
	all := l.All(1)
	for left := 1; left <= 3; left++ {
		got := []item{}
		for n, b := range all {
			got = append(got, item{n, string(b)})
			if len(got) == left {
				break
			}
		}
		if !slices.Equal(got, want[1:1+left]) {
			t.Error("All left at", left)
		}
	}
	add(t, l, "e")
	got := []item{}
	for n, b := range all {
		got = append(got, item{n, string(b)})
	}
	if !slices.Equal(got, append(want[1:], item{5, "e"})) {
		t.Error("All again")
	}
	cut(t, l, 3)
	has(t, l, item{3, ""}, item{4, "d"}, item{5, "e"})
	if got := items(l, 0); len(got) != 0 {
		t.Error("All of what was cut", got)
	}
}

// P5.3: the entries as they can be read: up to a torn one, none without power.
func TestAllReads(t *testing.T) {
	d := disk.New(12)
	l := open(t, d, 0, 12)
	for _, s := range []string{"a", long("b", 2*Chunk), "c"} {
		add(t, l, s)
	}
	force(t, l)
	d.Off()
	has(t, l)
	d.On(nil, -1)
	tear(t, d, 4)
	has(t, l, item{0, "a"})
	if got := items(l, 3); !slices.Equal(got, []item{{3, "c"}}) {
		t.Error("All behind what is torn", got)
	}
	tear(t, d, 2)
	has(t, l)
}

// P5.3: an entry that was written over by one of a life ahead isn't whole any more.
func TestAllByLives(t *testing.T) {
	d := disk.New(8)
	open(t, d, 0, 8)
	l := open(t, d, 0, 8)
	add(t, l, "a")
	l = open(t, d, 0, 8)
	add(t, l, "b")
	add(t, l, "c")
	lay(t, d, 4, ringBytes(2, 2, 1, "c"))
	has(t, l, item{0, "a"}, item{1, "b"})
	lay(t, d, 2, ringBytes(0, 1, 1, "a"))
	has(t, l)
}

// P5.3: what goes through the entries may append, and cut.
func TestAllWhileTurned(t *testing.T) {
	d := disk.New(12)
	l := open(t, d, 0, 12)
	add(t, l, "a")
	got := ""
	for _, b := range l.All(0) {
		got += string(b)
		if len(got) < 3 {
			add(t, l, "b")
		}
	}
	if got != "abb" {
		t.Error("All while appended", got)
	}
	got = ""
	for _, b := range l.All(0) {
		got += string(b)
		cut(t, l, l.Next())
	}
	if got != "a" {
		t.Error("All while cut", got)
	}
}

// P5.3: numbers, room and what is safe, as entries come and go, round and round.
func TestNumbers(t *testing.T) {
	d := disk.New(7)
	l := open(t, d, 0, 7)
	if l.Room() != 5 {
		t.Error("Room", l.Room())
	}
	next := uint64(0)
	for i := range 30 {
		size := i % 3 * Chunk
		was := next
		add(t, l, long("x", size))
		next += uint64(max(i%3, 1))
		stands(t, l, was, next, was, 1)
		force(t, l)
		stands(t, l, was, next, next, 1)
		cut(t, l, next)
		stands(t, l, next, next, next, 1)
	}
}

// P5.3: of a nil Log: ErrArg, 0, none; and no call of one that Open didn't make panics.
func TestNilLog(t *testing.T) {
	var l *Log
	if n, err := l.Append(nil); n != 0 || err != api.ErrArg {
		t.Error("Append", n, err)
	}
	if l.Force() != api.ErrArg || l.Cut(0) != api.ErrArg {
		t.Error("Force, Cut")
	}
	stands(t, l, 0, 0, 0, 0)
	if l.Room() != 0 || l.Free() != 0 || len(items(l, 0)) != 0 {
		t.Error("Room, Free, All")
	}
	zero := &Log{}
	zero.Append(nil)
	zero.Force()
	zero.Cut(0)
	zero.Cut(1)
	stands(t, zero, 0, 0, 0, 0)
	has(t, zero)
}
