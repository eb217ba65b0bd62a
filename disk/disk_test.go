package disk

import (
	"bytes"
	"math"
	"math/rand"
	"testing"

	"dockmaster/api"
)

// whole is a sector that begins with a text.
func whole(s string) []byte {
	return append([]byte(s), make([]byte, api.Sector-len(s))...)
}

func put(t *testing.T, d *Disk, at int, s string) {
	t.Helper()
	if err := d.Write(at, []byte(s)); err != api.OK {
		t.Fatal("Write", at, err)
	}
}

func sync(t *testing.T, d *Disk) {
	t.Helper()
	if err := d.Sync(); err != api.OK {
		t.Fatal("Sync", err)
	}
}

// has asks a sector for its text, with noughts behind.
func has(t *testing.T, d *Disk, at int, s string) {
	t.Helper()
	if b, err := d.Read(at); err != api.OK || !bytes.Equal(b, whole(s)) {
		t.Errorf("sector %d: %d, %d bytes, %.8q, want %q", at, err, len(b), b, s)
	}
}

// fails asks that a sector can't be read.
func fails(t *testing.T, d *Disk, at int, want api.Errno) {
	t.Helper()
	if b, err := d.Read(at); err != want || len(b) != 0 {
		t.Errorf("sector %d: %d, %d bytes, want %d", at, err, len(b), want)
	}
}

func counts(t *testing.T, d *Disk, steps, waits int, down bool) {
	t.Helper()
	if d.Steps() != steps || d.Waits() != waits || d.Down() != down {
		t.Errorf("steps %d, waits %d, down %v, want %d, %d, %v", d.Steps(), d.Waits(), d.Down(), steps, waits, down)
	}
}

// P4.1: so many sectors as are asked for, within the bounds, of noughts, the power on.
func TestNew(t *testing.T) {
	for n, want := range map[int]int{
		math.MinInt: 0, -1: 0, 0: 0, 1: 1, 7: 7,
		MaxSectors - 1: MaxSectors - 1, MaxSectors: MaxSectors, MaxSectors + 1: MaxSectors, math.MaxInt: MaxSectors,
	} {
		d := New(n)
		if d == nil || d.Len() != want {
			t.Fatal("New", n)
		}
		counts(t, d, 0, 0, false)
		fails(t, d, -1, api.ErrArg)
		fails(t, d, want, api.ErrArg)
		if want > 0 {
			has(t, d, 0, "")
			has(t, d, want-1, "")
		}
	}
}

// P4.1: a sector has what was written last, and noughts behind it, be it longer or shorter than what was there.
func TestWriteAndRead(t *testing.T) {
	d := New(3)
	put(t, d, 1, "hello")
	has(t, d, 1, "hello")
	put(t, d, 1, "a")
	has(t, d, 1, "a")
	put(t, d, 1, "")
	has(t, d, 1, "")
	full := bytes.Repeat([]byte{0xff}, api.Sector)
	put(t, d, 2, string(full))
	has(t, d, 2, string(full))
	if err := d.Write(2, nil); err != api.OK {
		t.Error("Write of nil", err)
	}
	has(t, d, 2, "")
	has(t, d, 0, "")
	counts(t, d, 5, 5, false)
}

// P4.1: a sector that isn't there, or too many bytes: ErrArg, whether the power is on or off; nothing is changed, and no step is done.
func TestWrongSectors(t *testing.T) {
	long := make([]byte, api.Sector+1)
	long[0] = 'x'
	d := New(2)
	put(t, d, 0, "a")
	d.Fuse(1)
	for _, off := range []bool{false, true} {
		if off {
			d.Off()
		}
		for _, at := range []int{math.MinInt, -1, 2, 3, math.MaxInt} {
			if err := d.Write(at, []byte("b")); err != api.ErrArg {
				t.Error("Write", at, err)
			}
			fails(t, d, at, api.ErrArg)
		}
		for _, at := range []int{0, 2} {
			if err := d.Write(at, long); err != api.ErrArg {
				t.Error("Write of 513 bytes", at, err)
			}
		}
		counts(t, d, 1, 1, off)
	}
	d.On([]bool{true}, -1)
	has(t, d, 0, "a")
	has(t, d, 1, "")
}

// P4.1: while the power is off: ErrDown, nothing is changed.
func TestDown(t *testing.T) {
	d := New(2)
	put(t, d, 0, "a")
	sync(t, d)
	put(t, d, 0, "b")
	d.Off()
	counts(t, d, 3, 1, true)
	if err := d.Write(0, []byte("c")); err != api.ErrDown {
		t.Error("Write", err)
	}
	if err := d.Sync(); err != api.ErrDown {
		t.Error("Sync", err)
	}
	fails(t, d, 0, api.ErrDown)
	d.Off()
	counts(t, d, 3, 1, true)
	d.On([]bool{false, true}, -1)
	counts(t, d, 3, 0, false)
	has(t, d, 0, "a")
}

// P4.1: each write waits, of one sector, too, till a Sync.
func TestWaits(t *testing.T) {
	d := New(2)
	sync(t, d)
	counts(t, d, 1, 0, false)
	for i := range 3 {
		put(t, d, 0, "a")
		counts(t, d, 2+i, 1+i, false)
	}
	sync(t, d)
	counts(t, d, 5, 0, false)
	d.On(nil, 0)
	has(t, d, 0, "a")
}

// P4.1: neither what was handed in nor what was told is the disk's own memory.
func TestMemoryIsApart(t *testing.T) {
	d := New(1)
	in := []byte("abc")
	d.Write(0, in)
	if string(in) != "abc" {
		t.Error("the argument was changed")
	}
	in[0] = 'x'
	has(t, d, 0, "abc")
	out, _ := d.Read(0)
	out[1] = 'y'
	has(t, d, 0, "abc")
	sync(t, d)
	out, _ = d.Read(0)
	out[2] = 'z'
	d.On(nil, -1)
	has(t, d, 0, "abc")
	full := whole("full")
	d.Write(0, full)
	full[0] = 'x'
	has(t, d, 0, "full")
	keep := []bool{true}
	d.On(keep, 0)
	if !keep[0] {
		t.Error("keep was changed")
	}
	keep[0] = false
	has(t, d, 0, "full")
}

// P4.2: the power goes at a write: it is done, isn't safe, isn't counted as a step.
func TestFuseAtWrite(t *testing.T) {
	for _, stays := range []bool{false, true} {
		d := New(2)
		put(t, d, 0, "a")
		sync(t, d)
		d.Fuse(3)
		put(t, d, 1, "b")
		sync(t, d)
		counts(t, d, 4, 0, false)
		if err := d.Write(0, []byte("c")); err != api.ErrDown {
			t.Error("Write", err)
		}
		counts(t, d, 4, 1, true)
		fails(t, d, 0, api.ErrDown)
		d.On([]bool{stays}, -1)
		counts(t, d, 4, 0, false)
		want := "a"
		if stays {
			want = "c"
		}
		has(t, d, 0, want)
		has(t, d, 1, "b")
	}
}

// P4.2: the power goes at a Sync: it does nothing.
func TestFuseAtSync(t *testing.T) {
	d := New(2)
	d.Fuse(2)
	put(t, d, 0, "a")
	if err := d.Sync(); err != api.ErrDown {
		t.Error("Sync", err)
	}
	counts(t, d, 1, 1, true)
	d.On(nil, -1)
	has(t, d, 0, "")
	put(t, d, 0, "b")
	sync(t, d)
	counts(t, d, 3, 0, false)
}

// P4.2: the fuse counts writes and Syncs, not what fails, not what is read.
func TestFuseCountsSteps(t *testing.T) {
	for n := 1; n < 6; n++ {
		d := New(1)
		d.Fuse(n)
		for i := 1; i < n; i++ {
			d.Write(1, nil)
			d.Write(0, make([]byte, api.Sector+1))
			d.Read(0)
			if i%2 == 0 {
				sync(t, d)
			} else {
				put(t, d, 0, "a")
			}
		}
		if d.Down() || d.Steps() != n-1 {
			t.Error("the power went early", n)
		}
		if err := d.Write(0, nil); err != api.ErrDown || !d.Down() {
			t.Error("the power stays", n, err)
		}
	}
}

// P4.2: a fuse below 1 takes the one away that is there; a new one counts from now on.
func TestFuseAnew(t *testing.T) {
	for _, n := range []int{0, -1, math.MinInt} {
		d := New(1)
		d.Fuse(1)
		d.Fuse(n)
		for range 5 {
			put(t, d, 0, "a")
			sync(t, d)
		}
		counts(t, d, 10, 0, false)
	}
	d := New(1)
	d.Fuse(2)
	put(t, d, 0, "a")
	d.Fuse(2)
	put(t, d, 0, "b")
	if d.Sync() != api.ErrDown {
		t.Error("the power stays")
	}
	d = New(1)
	d.Fuse(math.MaxInt)
	put(t, d, 0, "a")
	counts(t, d, 1, 1, false)
}

// P4.2, P4.3: a fuse of a disk without power is none, and On takes one away, whether the power was on or off.
func TestFuseGoesByOn(t *testing.T) {
	d := New(1)
	d.Off()
	d.Fuse(1)
	d.On(nil, -1)
	put(t, d, 0, "a")
	d.Fuse(1)
	d.On(nil, -1)
	put(t, d, 0, "a")
	d.Fuse(2)
	d.Off()
	d.On(nil, -1)
	put(t, d, 0, "a")
	sync(t, d)
	sync(t, d)
	d.Fuse(1)
	d.Sync()
	d.On(nil, -1)
	sync(t, d)
	counts(t, d, 6, 0, false)
}

// P4.3: the chapter's example: one write stays, the other tears its sector.
func TestOnExample(t *testing.T) {
	for _, off := range []bool{false, true} {
		d := New(3)
		put(t, d, 0, "a")
		sync(t, d)
		put(t, d, 0, "b")
		put(t, d, 1, "c")
		if off {
			d.Off()
		}
		d.On([]bool{false, true}, 0)
		counts(t, d, 4, 0, false)
		fails(t, d, 0, api.ErrTorn)
		has(t, d, 1, "c")
		has(t, d, 2, "")
	}
}

// P4.3: of several writes of one sector the last that stays counts, and a tear behind it.
func TestOnOneSector(t *testing.T) {
	for _, c := range []struct {
		keep []bool
		tear int
		want string
		torn bool
	}{
		{nil, -1, "old", false},
		{[]bool{}, 9, "old", false},
		{[]bool{true}, -1, "a", false},
		{[]bool{true, true}, -1, "b", false},
		{[]bool{true, false}, -1, "a", false},
		{[]bool{false, true}, -1, "b", false},
		{[]bool{false, true, false}, -1, "b", false},
		{[]bool{true, true, true, true, true}, -1, "c", false},
		{[]bool{true, false, true}, 1, "c", false},
		{[]bool{true}, 0, "a", false},
		{[]bool{true}, 1, "", true},
		{[]bool{true}, 2, "", true},
		{[]bool{true, true}, 2, "", true},
		{[]bool{false, true}, 0, "b", false},
		{[]bool{false, true}, 2, "", true},
		{nil, 0, "", true},
		{nil, 2, "", true},
		{nil, 3, "old", false},
		{nil, math.MinInt, "old", false},
		{nil, math.MaxInt, "old", false},
	} {
		d := New(1)
		put(t, d, 0, "old")
		sync(t, d)
		put(t, d, 0, "a")
		put(t, d, 0, "b")
		put(t, d, 0, "c")
		d.On(c.keep, c.tear)
		if c.torn {
			fails(t, d, 0, api.ErrTorn)
		} else {
			has(t, d, 0, c.want)
		}
		d.On([]bool{true, true, true}, -1)
		if c.torn {
			fails(t, d, 0, api.ErrTorn)
		} else {
			has(t, d, 0, c.want)
		}
	}
}

// torn is a disk of two sectors, the first torn, the second with b.
func torn(t *testing.T) *Disk {
	t.Helper()
	d := New(2)
	put(t, d, 0, "a")
	put(t, d, 1, "b")
	d.On([]bool{false, true}, 0)
	fails(t, d, 0, api.ErrTorn)
	has(t, d, 1, "b")
	return d
}

// P4.3: a torn sector is torn till it is written; that write must be safe to stay.
func TestTornTillWritten(t *testing.T) {
	d := torn(t)
	sync(t, d)
	fails(t, d, 0, api.ErrTorn)
	put(t, d, 0, "c")
	has(t, d, 0, "c")
	d.On(nil, -1)
	fails(t, d, 0, api.ErrTorn)
	put(t, d, 0, "d")
	d.On([]bool{true}, 0)
	has(t, d, 0, "d")
	d.On(nil, 0)
	has(t, d, 0, "d")

	d = torn(t)
	put(t, d, 0, "e")
	sync(t, d)
	d.On(nil, -1)
	has(t, d, 0, "e")

	d = torn(t)
	if err := d.Write(0, make([]byte, api.Sector+1)); err != api.ErrArg {
		t.Error("Write", err)
	}
	fails(t, d, 0, api.ErrTorn)
	d.Off()
	d.Write(0, []byte("f"))
	d.On([]bool{true}, -1)
	fails(t, d, 0, api.ErrTorn)
}

// P4.3: behind On nothing waits: what stays is safe, and keep's places count from there anew.
func TestOnBeginsAnew(t *testing.T) {
	d := New(2)
	put(t, d, 0, "a")
	put(t, d, 0, "b")
	d.On([]bool{true}, -1)
	counts(t, d, 2, 0, false)
	d.On(nil, -1)
	has(t, d, 0, "a")
	put(t, d, 1, "c")
	put(t, d, 0, "d")
	d.On([]bool{true}, 1)
	has(t, d, 1, "c")
	fails(t, d, 0, api.ErrTorn)
}

// P4.1, P4.2, P4.3: of a nil Disk: nothing, 0; no sector of it is there.
func TestNilDisk(t *testing.T) {
	var d *Disk
	d.Fuse(1)
	d.Off()
	counts(t, d, 0, 0, false)
	d.On([]bool{true}, 0)
	counts(t, d, 0, 0, false)
	if d.Len() != 0 || d.Write(0, nil) != api.ErrArg || d.Sync() != api.ErrArg {
		t.Error("a nil Disk does something")
	}
	fails(t, d, 0, api.ErrArg)
}

// P4.1: a Disk that New didn't make has no sectors.
func TestZeroDisk(t *testing.T) {
	var d Disk
	if d.Len() != 0 || d.Write(0, nil) != api.ErrArg {
		t.Error("a zero Disk has sectors")
	}
	fails(t, &d, 0, api.ErrArg)
	sync(t, &d)
	d.On([]bool{true}, 0)
	counts(t, &d, 1, 0, false)
}

// P4.1, P4.3: a write that doesn't wait any more isn't kept.
func TestNothingIsKept(t *testing.T) {
	d := New(2)
	for _, end := range []func(){func() { sync(t, d) }, func() { d.On([]bool{true}, 1) }} {
		put(t, d, 1, "a")
		put(t, d, 1, "b")
		put(t, d, 1, "c")
		end()
		for i, w := range d.waits[:cap(d.waits)] {
			if w.bytes != nil {
				t.Error("the list's memory keeps a write", i)
			}
		}
	}
}

// model is a disk by its writes alone: nothing of it is worked out ahead of being asked.
type model struct {
	safe  []state
	waits []done
	down  bool
	fuse  int
	steps int
}

type state struct {
	text string
	torn bool
}

type done struct {
	at   int
	text string
}

func (m *model) step() api.Errno {
	m.fuse--
	if m.fuse == 0 {
		m.down = true
		return api.ErrDown
	}
	m.steps++
	return api.OK
}

func (m *model) write(at int, s string) api.Errno {
	if m.down {
		return api.ErrDown
	}
	m.waits = append(m.waits, done{at, s})
	return m.step()
}

func (m *model) sync() api.Errno {
	if m.down {
		return api.ErrDown
	}
	if err := m.step(); err != api.OK {
		return err
	}
	for i := range m.safe {
		m.safe[i] = m.read(i)
	}
	m.waits = nil
	return api.OK
}

func (m *model) read(at int) state {
	for i := len(m.waits) - 1; i >= 0; i-- {
		if m.waits[i].at == at {
			return state{text: m.waits[i].text}
		}
	}
	return m.safe[at]
}

func (m *model) on(keep []bool, tear int) {
	for i, w := range m.waits {
		switch {
		case i < len(keep) && keep[i]:
			m.safe[w.at] = state{text: w.text}
		case i == tear:
			m.safe[w.at] = state{torn: true}
		}
	}
	m.waits, m.down, m.fuse = nil, false, 0
}

// P4.1, P4.2, P4.3: whatever is done, a list of writes answers the same.
func TestAgainstWrites(t *testing.T) {
	const sectors = 4
	r := rand.New(rand.NewSource(3))
	for range 200 {
		d, m := New(sectors), &model{safe: make([]state, sectors)}
		for range 100 {
			turn(t, r, d, m)
			counts(t, d, m.steps, len(m.waits), m.down)
			for at := range sectors {
				s := m.read(at)
				switch {
				case m.down:
					fails(t, d, at, api.ErrDown)
				case s.torn:
					fails(t, d, at, api.ErrTorn)
				default:
					has(t, d, at, s.text)
				}
			}
			if t.Failed() {
				return
			}
		}
	}
}

// turn does the same to both.
func turn(t *testing.T, r *rand.Rand, d *Disk, m *model) {
	t.Helper()
	switch r.Intn(10) {
	case 0:
		n := r.Intn(8) - 1
		d.Fuse(n)
		if !m.down {
			m.fuse = n
		}
	case 1:
		d.Off()
		m.down = true
	case 2, 3:
		keep := make([]bool, r.Intn(8))
		for i := range keep {
			keep[i] = r.Intn(2) == 0
		}
		tear := r.Intn(8) - 1
		d.On(keep, tear)
		m.on(keep, tear)
	case 4:
		if got, want := d.Sync(), m.sync(); got != want {
			t.Fatal("Sync", got, want)
		}
	default:
		at, s := r.Intn(len(m.safe)), string(rune('a'+r.Intn(26)))
		if got, want := d.Write(at, []byte(s)), m.write(at, s); got != want {
			t.Fatal("Write", got, want)
		}
	}
}
