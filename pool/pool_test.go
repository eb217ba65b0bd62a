package pool

import (
	"bytes"
	"math"
	"strings"
	"testing"

	"dockmaster/api"
	"dockmaster/disk"
	"dockmaster/page"
	"dockmaster/wal"
)

const logSectors = 20

// bench is a disk with a log on its first sectors, and a pool of the pages behind it.
type bench struct {
	t *testing.T
	d *disk.Disk
	l *wal.Log
	p *Pool
}

func newBench(t *testing.T, pages, room int) *bench {
	t.Helper()
	d := disk.New(logSectors + pages)
	l, err := wal.Open(d, 0, logSectors)
	if err != api.OK {
		t.Fatal("Open", err)
	}
	b := &bench{t: t, d: d, l: l}
	b.anew(pages, room)
	return b
}

// anew is a pool of the same pages, which holds none of them.
func (b *bench) anew(pages, room int) {
	b.t.Helper()
	p, err := New(b.d, b.l, logSectors, pages, room)
	if err != api.OK || p == nil {
		b.t.Fatal("New", err)
	}
	b.p = p
}

// leaf is a page that can be told from others by its text.
func leaf(s string) page.Page {
	return page.Page{Kind: page.Leaf, Keys: []string{"k"}, Vals: []string{s}}
}

func (b *bench) save(n int, s string, lsn uint64) {
	b.t.Helper()
	if err := b.p.Save(n, leaf(s), lsn); err != api.OK {
		b.t.Fatal("Save", n, err)
	}
}

// load asks for a page, and holds it against what is expected.
func (b *bench) load(n int, s string, lsn uint64) {
	b.t.Helper()
	x, at, err := b.p.Load(n)
	if err != api.OK || !x.Same(leaf(s)) || at != lsn {
		b.t.Fatal("Load", n, x, at, err, "want", s, lsn)
	}
}

// loadFails asks for a page that can't be told.
func (b *bench) loadFails(n int, want api.Errno) {
	b.t.Helper()
	x, lsn, err := b.p.Load(n)
	if err != want || lsn != 0 || !x.Same(page.Page{}) {
		b.t.Error("Load", n, x, lsn, err, "want", want)
	}
}

func (b *bench) saveFails(n int, x page.Page, want api.Errno) {
	b.t.Helper()
	if err := b.p.Save(n, x, 0); err != want {
		b.t.Error("Save", n, err, "want", want)
	}
}

// counts holds what the pool tells of itself against what is expected.
func (b *bench) counts(held, dirty, wrote int) {
	b.t.Helper()
	if b.p.Held() != held || b.p.Dirty() != dirty || b.p.Wrote() != wrote {
		b.t.Error("held, dirty, wrote:", b.p.Held(), b.p.Dirty(), b.p.Wrote(), "want", held, dirty, wrote)
	}
}

// append lays entries in the log, none of them safe.
func (b *bench) append(entries int) {
	b.t.Helper()
	for range entries {
		if _, err := b.l.Append([]byte("e")); err != api.OK {
			b.t.Fatal("Append", err)
		}
	}
}

// lay writes a page to its sector, past the pool.
func (b *bench) lay(n int, s string, lsn uint64) {
	b.t.Helper()
	bytes, _ := page.Encode(leaf(s), lsn)
	if err := b.d.Write(logSectors+n, bytes); err != api.OK {
		b.t.Fatal("Write", err)
	}
}

// stands holds a page's sector against what is expected: noughts, if no text is.
func (b *bench) stands(n int, s string, lsn uint64) {
	b.t.Helper()
	want := make([]byte, api.Sector)
	if s != "" {
		laid, _ := page.Encode(leaf(s), lsn)
		copy(want, laid)
	}
	got, err := b.d.Read(logSectors + n)
	if err != api.OK || !bytes.Equal(got, want) {
		b.t.Errorf("sector of page %d: % x %v, want %q %d", n, got[:12], err, s, lsn)
	}
}

// holds tells, of a pool that isn't used any more, whether it holds just these pages: without power none but those can be Loaded.
func (b *bench) holds(want ...int) {
	b.t.Helper()
	held := map[int]bool{}
	for _, n := range want {
		held[n] = true
	}
	b.d.Off()
	for n := range b.p.Pages() {
		if _, _, err := b.p.Load(n); (err == api.OK) != held[n] || err != api.OK && err != api.ErrDown {
			b.t.Error("page", n, err, "want held", want)
		}
	}
	if b.p.Held() != len(want) {
		b.t.Error("Held", b.p.Held(), want)
	}
}

// wrongNumbers are numbers that no page of a pool of 10 has.
func wrongNumbers() []int {
	return []int{math.MinInt, -1, 10, 11, page.MaxPage, math.MaxInt}
}

// P8.1: the bounds of New.
func TestNew(t *testing.T) {
	d := disk.New(30)
	l, _ := wal.Open(d, 0, 20)
	whole := disk.New(disk.MaxSectors)
	steps := d.Steps()
	for name, c := range map[string]struct {
		d           *disk.Disk
		l           *wal.Log
		from, pages int
		want        api.Errno
	}{
		"ordinary":               {d, l, 20, 10, api.OK},
		"no log":                 {d, nil, 20, 10, api.ErrArg},
		"no disk":                {nil, l, 0, 1, api.ErrArg},
		"no disk, no pages":      {nil, l, 0, 0, api.ErrArg},
		"no pages":               {d, l, 20, 0, api.ErrArg},
		"pages below 0":          {d, l, 20, -1, api.ErrArg},
		"pages of the least":     {d, l, 20, math.MinInt, api.ErrArg},
		"pages of the most":      {d, l, 20, math.MaxInt, api.ErrArg},
		"one page":               {d, l, 29, 1, api.OK},
		"one page behind":        {d, l, 30, 1, api.ErrArg},
		"the whole disk":         {d, l, 0, 30, api.OK},
		"one sector less":        {d, l, 21, 10, api.ErrArg},
		"one page more":          {d, l, 20, 11, api.ErrArg},
		"from -1":                {d, l, -1, 10, api.ErrArg},
		"from the least":         {d, l, math.MinInt, 10, api.ErrArg},
		"from the most":          {d, l, math.MaxInt, 10, api.ErrArg},
		"65536 pages":            {whole, l, 0, 65536, api.OK},
		"65536 pages from 1 on":  {whole, l, 1, 65536, api.ErrArg},
		"65535 pages from 1 on":  {whole, l, 1, 65535, api.OK},
		"65537 pages":            {whole, l, 0, 65537, api.ErrArg},
		"65537 pages from -1 on": {whole, l, -1, 65537, api.ErrArg},
	} {
		p, err := New(c.d, c.l, c.from, c.pages, 4)
		if err != c.want || (p == nil) != (c.want != api.OK) {
			t.Error(name, p, err)
			continue
		}
		want := 0
		if c.want == api.OK {
			want = c.pages
		}
		if p.Pages() != want || p.Held() != 0 || p.Dirty() != 0 || p.Wrote() != 0 {
			t.Error(name, p.Pages(), p.Held(), p.Dirty(), p.Wrote())
		}
	}
	if d.Steps() != steps || whole.Steps() != 0 {
		t.Error("New did something to the disk")
	}
}

// P8.1: New needs no power.
func TestNewDown(t *testing.T) {
	b := newBench(t, 10, 4)
	b.d.Off()
	b.anew(10, 4)
	b.loadFails(0, api.ErrDown)
}

// P8.1: page n stands in the sector from + n, the first one and the last one too; no other sector is written.
func TestSectors(t *testing.T) {
	d := disk.New(16)
	l, _ := wal.Open(disk.New(8), 0, 8)
	p, err := New(d, l, 3, 10, 4)
	if err != api.OK {
		t.Fatal(err)
	}
	for _, n := range []int{0, 9} {
		p.Save(n, leaf("x"), 7)
	}
	p.Flush()
	want, _ := page.Encode(leaf("x"), 7)
	for at := range 16 {
		got, _ := d.Read(at)
		full := at == 3 || at == 12
		if bytes.HasPrefix(got, want) != full || !full && !bytes.Equal(got, make([]byte, api.Sector)) {
			t.Error("sector", at, got[:8])
		}
	}
	whole := disk.New(disk.MaxSectors)
	p, _ = New(whole, l, 0, page.MaxPage, 4)
	p.Save(65535, leaf("x"), 7)
	p.Flush()
	if got, _ := whole.Read(65535); !bytes.HasPrefix(got, want) {
		t.Error("the last page of all", got[:8])
	}
	if p.Save(65536, leaf("x"), 7) != api.ErrArg {
		t.Error("a page more")
	}
}

// P8.1: how many pages are held at most.
func TestRoom(t *testing.T) {
	for room, most := range map[int]int{math.MinInt: 4, -1: 4, 0: 4, 1: 4, 3: 4, 4: 4, 5: 5, 9: 9, 10: 10, 11: 10, math.MaxInt: 10} {
		b := newBench(t, 10, room)
		for n := range 10 {
			b.save(n, "x", 0)
			held := min(n+1, most)
			b.counts(held, held, n+1-held)
		}
		b = newBench(t, 10, room)
		for n := range 10 {
			b.lay(n, "x", 0)
			b.load(n, "x", 0)
			b.counts(min(n+1, most), 0, 0)
		}
	}
}

// P8.2: Load of a page that is held, and of one that isn't.
func TestLoad(t *testing.T) {
	b := newBench(t, 10, 4)
	b.lay(3, "a", 5)
	b.load(3, "a", 5)
	b.counts(1, 0, 0)
	b.lay(3, "b", 6)
	b.load(3, "a", 5)
	b.save(4, "c", 9)
	b.load(4, "c", 9)
	b.stands(4, "", 0)
	b.counts(2, 1, 0)
	b.d.Off()
	b.load(3, "a", 5)
	b.load(4, "c", 9)
	b.loadFails(5, api.ErrDown)
	b.counts(2, 1, 0)
}

// P8.2: each kind of page can be Saved, written and Loaded, with the greatest number that a page can have too.
func TestKinds(t *testing.T) {
	for _, lsn := range []uint64{0, 1, 1 << 40, math.MaxInt64} {
		for _, x := range []page.Page{
			{Kind: page.Leaf}, leaf("x"), leaf(strings.Repeat("v", 48)),
			{Kind: page.Inner, Keys: []string{"a", "b"}, Kids: []int{0, 65535, 7}},
			{Kind: page.Meta, Root: 9, Next: 8, Size: 65536, Idle: 65536},
			{Kind: page.Free}, {Kind: page.Free, Next: 65535},
		} {
			b := newBench(t, 10, 4)
			if err := b.p.Save(2, x, lsn); err != api.OK {
				t.Error("Save", x, err)
			}
			b.p.Flush()
			b.anew(10, 4)
			if got, at, err := b.p.Load(2); err != api.OK || !got.Same(x) || at != lsn {
				t.Error("Load", got, at, err, "want", x, lsn)
			}
		}
	}
}

// P8.2: what can't be Loaded: no such page, a sector that can't be read, one that is no page's; nothing is let go for it.
func TestLoadFails(t *testing.T) {
	b := newBench(t, 10, 4)
	b.d.Write(logSectors+6, []byte("nonsense"))
	b.lay(7, "x", 1<<63-1)
	b.lay(8, "x", 1<<63)
	b.d.Sync()
	b.lay(5, "y", 0)
	b.d.On(nil, 0)
	for n := range 4 {
		b.save(n, "x", 0)
	}
	fails := func() {
		t.Helper()
		for _, n := range wrongNumbers() {
			b.loadFails(n, api.ErrArg)
		}
		b.loadFails(4, api.ErrBad)
		b.loadFails(5, api.ErrTorn)
		b.loadFails(6, api.ErrBad)
		b.loadFails(8, api.ErrBad)
	}
	fails()
	b.counts(4, 4, 0)
	b.d.Off()
	b.loadFails(10, api.ErrArg)
	b.loadFails(-1, api.ErrArg)
	b.loadFails(5, api.ErrDown)
	b.d.On(nil, -1)
	b.load(7, "x", 1<<63-1)
	b.counts(4, 3, 1)
	fails()
	b.holds(1, 2, 3, 7)
}

// P8.2: what can't be Saved: no such page, one that isn't right; nothing is turned, let go or used by it.
func TestSaveFails(t *testing.T) {
	b := newBench(t, 10, 4)
	wrong := []page.Page{
		{},
		{Kind: 5},
		{Kind: page.Leaf, Keys: []string{"b", "a"}, Vals: []string{"", ""}},
		{Kind: page.Leaf, Keys: []string{"a"}},
		{Kind: page.Inner, Kids: []int{1}},
		{Kind: page.Meta, Size: 1, Idle: 2},
		{Kind: page.Free, Next: 65536},
		leaf(strings.Repeat("v", 49)),
	}
	for n := range 4 {
		b.save(n, "x", uint64(n))
	}
	b.p.Flush()
	for range 2 {
		for _, x := range wrong {
			for _, n := range []int{0, 3, 4, 9} {
				b.saveFails(n, x, api.ErrArg)
			}
		}
		for _, n := range wrongNumbers() {
			b.saveFails(n, leaf("y"), api.ErrArg)
			b.saveFails(n, page.Page{}, api.ErrArg)
		}
		b.d.Off()
	}
	b.d.On(nil, -1)
	b.counts(4, 0, 4)
	// Page 0 is still the one that was used the longest time ago.
	b.save(4, "x", 0)
	b.holds(1, 2, 3, 4)
}

// P8.2: the chapter's example: a pool of 4, five pages Saved one behind the other: the first one is written.
func TestExample(t *testing.T) {
	b := newBench(t, 10, 4)
	for n := range 5 {
		b.save(n, "x", 0)
	}
	b.counts(4, 4, 1)
	b.stands(0, "x", 0)
	for n := 1; n < 5; n++ {
		b.stands(n, "", 0)
	}
	b.holds(1, 2, 3, 4)
}

// P8.2: which page is let go, behind Loads and behind Saves of pages that are held, and of others.
func TestLongestAgo(t *testing.T) {
	for name, c := range map[string]struct {
		uses string // a number: Load, a number behind s: Save
		want []int  // which are held behind it
		on   string // which pages stand on the disk as they were Saved
	}{
		"Saves":               {"s0s1s2s3s4", []int{1, 2, 3, 4}, "0"},
		"Saves and more":      {"s0s1s2s3s4s5s6", []int{3, 4, 5, 6}, "012"},
		"a Load of the first": {"s0s1s2s30s4", []int{0, 2, 3, 4}, "1"},
		"a Save of the first": {"s0s1s2s3s0s4", []int{0, 2, 3, 4}, "1"},
		"Loads of all":        {"s0s1s2s33210s4s5", []int{0, 1, 4, 5}, "32"},
		"Saves of all":        {"s0s1s2s3s3s2s1s0s4s5", []int{0, 1, 4, 5}, "32"},
		"a Load in between":   {"s0s1s2s31s4s5", []int{1, 3, 4, 5}, "02"},
		"a Load of the last":  {"s0s1s2s33s4", []int{1, 2, 3, 4}, "0"},
		"a Load of another":   {"s0s1s2s38", []int{1, 2, 3, 8}, "0"},
		"Loads of others":     {"6789s0s1", []int{0, 1, 8, 9}, ""},
		"a Load that returns": {"s0s1s2s380", []int{0, 2, 3, 8}, "01"},
		"clean and dirty":     {"6s07s189", []int{1, 7, 8, 9}, "0"},
		"dirty twice":         {"s0s0s1s1s2s3s4", []int{1, 2, 3, 4}, "0"},
	} {
		b := newBench(t, 10, 4)
		for n := 6; n < 10; n++ {
			b.lay(n, "laid", 3)
		}
		for i := 0; i < len(c.uses); i++ {
			if c.uses[i] == 's' {
				i++
				b.save(int(c.uses[i]-'0'), "saved", 0)
			} else if _, _, err := b.p.Load(int(c.uses[i] - '0')); err != api.OK {
				t.Error(name, "Load", c.uses[i:], err)
			}
		}
		for n := range 6 {
			if strings.ContainsRune(c.on, rune('0'+n)) {
				b.stands(n, "saved", 0)
			} else {
				b.stands(n, "", 0)
			}
		}
		if b.p.Wrote() != len(c.on) {
			t.Error(name, "Wrote", b.p.Wrote())
		}
		b.holds(c.want...)
		if t.Failed() {
			t.Fatal(name)
		}
	}
}

// P8.2: a clean page is let go without any step of the disk; one that was written is clean.
func TestClean(t *testing.T) {
	b := newBench(t, 10, 4)
	for n := range 10 {
		b.save(n, "x", 0)
	}
	b.p.Flush()
	steps := b.d.Steps()
	for n := range 10 {
		b.load(n, "x", 0)
	}
	b.counts(4, 0, 10)
	if b.d.Steps() != steps {
		t.Error("a clean page was written")
	}
	b.save(9, "x", 0)
	b.counts(4, 1, 10)
	b.p.Flush()
	b.counts(4, 0, 11)
}

// P8.2: a page whose number is less than Safe is written at once, another one behind a Force.
func TestForceAhead(t *testing.T) {
	for _, c := range []struct {
		safe, more int // entries that are safe, and others
		lsn        uint64
		forced     bool
	}{
		{3, 2, 2, false},
		{3, 2, 3, true},
		{3, 2, 4, true},
		{3, 2, 5, true},
		{3, 2, 1 << 40, true},
		{3, 2, 0, false},
		{3, 0, 2, false},
		{3, 0, 3, false},
		{0, 1, 0, true},
		{0, 0, 0, false},
	} {
		for _, flush := range []bool{false, true} {
			b := newBench(t, 10, 4)
			b.append(c.safe)
			b.l.Force()
			b.append(c.more)
			b.save(0, "x", c.lsn)
			for n := 1; n < 4 && !flush; n++ {
				b.save(n, "y", 0)
			}
			steps, safe := b.d.Steps(), uint64(c.safe)
			want := steps + 1
			if c.forced {
				safe, want = safe+uint64(c.more), want+1
			}
			if flush {
				b.p.Flush()
				want++
			} else {
				b.save(4, "y", 0)
			}
			if b.l.Safe() != safe || b.d.Steps() != want || b.p.Wrote() != 1 {
				t.Error(c, flush, "safe", b.l.Safe(), "steps", b.d.Steps()-steps)
			}
			b.stands(0, "x", c.lsn)
		}
	}
}

// P8.2: a Load that needs room writes as a Save does.
func TestLoadWrites(t *testing.T) {
	b := newBench(t, 10, 4)
	b.append(2)
	b.lay(9, "laid", 0)
	for n := range 4 {
		b.save(n, "x", 1)
	}
	b.load(9, "laid", 0)
	b.counts(4, 3, 1)
	b.stands(0, "x", 1)
	if b.l.Safe() != 2 {
		t.Error("Safe", b.l.Safe())
	}
	b.load(0, "x", 1)
	b.counts(4, 2, 2)
}

// P8.2: the disk's error at each step while room is made: nothing is turned by it, and it can be done again.
func TestRoomFails(t *testing.T) {
	calls := map[string]func(b *bench) api.Errno{
		"Save": func(b *bench) api.Errno { return b.p.Save(4, leaf("new"), 0) },
		"Load": func(b *bench) api.Errno {
			x, lsn, err := b.p.Load(9)
			if err != api.OK && (lsn != 0 || !x.Same(page.Page{})) {
				b.t.Error("Load", x, lsn, err)
			}
			return err
		},
	}
	for name, call := range calls {
		for fuse := 1; fuse <= 3; fuse++ {
			b := newBench(t, 10, 4)
			b.lay(9, "laid", 0)
			b.append(2)
			b.l.Force()
			b.append(2)
			for n := range 4 {
				b.save(n, "x", uint64(n+2))
			}
			b.d.Fuse(fuse)
			want, safe := api.ErrDown, uint64(2)
			if fuse > 1 {
				safe = 4
			}
			if fuse > 2 {
				want = api.OK
			}
			if err := call(b); err != want || b.l.Safe() != safe {
				t.Error(name, fuse, err, b.l.Safe())
			}
			if want == api.OK {
				b.counts(4, map[string]int{"Save": 4, "Load": 3}[name], 1)
				continue
			}
			b.counts(4, 4, 0)
			if err := b.p.Save(5, leaf("new"), 0); err != api.ErrDown {
				t.Error(name, fuse, "without power", err)
			}
			b.d.On(nil, -1)
			if fuse > 1 {
				b.stands(0, "", 0)
			}
			// Page 0 is the one that was used the longest time ago, as ahead of the call.
			b.save(5, "new", 0)
			b.counts(4, 4, 1)
			b.stands(0, "x", 2)
			b.load(3, "x", 5)
			b.holds(1, 2, 3, 5)
		}
	}
}

// P8.2: a Save of a page that is held needs no room, and no power.
func TestSaveHeld(t *testing.T) {
	b := newBench(t, 10, 4)
	for n := range 4 {
		b.save(n, "x", 0)
	}
	b.d.Off()
	b.saveFails(4, leaf("y"), api.ErrDown)
	b.save(2, "y", 7)
	b.load(2, "y", 7)
	b.counts(4, 4, 0)
}

// P8.2: clean pages are let go without power; the page that comes instead is there.
func TestRoomWithoutPower(t *testing.T) {
	b := newBench(t, 10, 4)
	for n := range 4 {
		b.save(n, "x", 0)
	}
	b.p.Flush()
	b.d.Off()
	b.save(0, "y", 0)
	b.save(4, "z", 0)
	b.counts(4, 2, 4)
	b.load(4, "z", 0)
	b.loadFails(1, api.ErrDown)
}
