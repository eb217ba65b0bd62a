package rec

import (
	"bytes"
	"encoding/binary"
	"math"
	"math/rand"
	"strings"
	"testing"

	"dockmaster/api"
	"dockmaster/page"
	"dockmaster/space"
)

// written is records, and their bytes written out.
func written() []struct {
	r    Rec
	want string
} {
	meta := space.Change{N: 0, P: page.Page{Kind: page.Meta, Root: 2, Size: 3}}
	return []struct {
		r    Rec
		want string
	}{
		{of(Commit), "\x04\x05\x01"},
		{of(Abort), "\x05\x05\x01"},
		{of(End), "\x07\x05\x01"},
		{of(End, func(r *Rec) { r.Tid = api.Tid{} }), "\x07\x00\x00"},
		{of(Commit, func(r *Rec) { r.Tid = api.Tid{Num: 1 << 40, Node: 63} }), "\x04\x80\x80\x80\x80\x80\x20\x3f"},
		{of(Update), "\x01\x05\x01\x01k\x00\x00\x00\x00"},
		{of(Update, func(r *Rec) { r.Was = true }), "\x01\x05\x01\x01k\x01\x00\x00\x00"},
		{of(Update, func(r *Rec) { r.Key, r.Was, r.Old, r.Prev = "ab", true, "xyz", 300 }), "\x01\x05\x01\x02ab\x01\x03xyz\xac\x02\x00"},
		{of(Update, func(r *Rec) { r.Pages = []space.Change{meta, leaf(300)} }), "\x01\x05\x01\x01k\x00\x00\x00\x02\x00\x06\x03\x00\x02\x00\x03\x00\xac\x02\x07\x01\x00\x01\x01a\x01x"},
		{of(Undo), "\x02\x05\x01\x00\x00"},
		{of(Undo, func(r *Rec) { r.Prev = 1 << 62 }), "\x02\x05\x01\x80\x80\x80\x80\x80\x80\x80\x80\x40\x00"},
		{of(Undo, func(r *Rec) { r.Prev, r.Pages = 9, []space.Change{{N: 65535, P: page.Page{Kind: page.Free, Next: 7}}} }), "\x02\x05\x01\x09\x01\xff\xff\x03\x03\x04\x00\x07"},
		{prepares(), "\x03\x05\x01\x00"},
		{prepares("a", "bc"), "\x03\x05\x01\x02\x01a\x02bc"},
		{decides(), "\x06\x05\x01\x00"},
		{decides(0, 5, 63), "\x06\x05\x01\x03\x00\x05\x3f"},
		{of(Check), "\x08\x00\x00\x00\x00"},
		{opens(func(o *Open) {}), "\x08\x00\x00\x01\x05\x01\x00\x00\x00\x00\x00\x00"},
		{opens(func(o *Open) { *o = Open{five(), 300, 2, 128, true, []string{"a", "bc"}} }), "\x08\x00\x00\x01\x05\x01\xac\x02\x02\x80\x01\x01\x02\x01a\x02bc\x00"},
		{dones(), "\x08\x00\x00\x00\x01\x05\x01\x00"},
		{dones(3, 4), "\x08\x00\x00\x00\x01\x05\x01\x02\x03\x04"},
		{Rec{Kind: Check, Opens: []Open{{Tid: api.Tid{Num: 1}}, {Tid: api.Tid{Num: 1, Node: 2}, Ready: true}}, Dones: []Done{{Tid: five(), Nodes: []int{9}}, {Tid: api.Tid{Num: 6}}}},
			"\x08\x00\x00\x02\x01\x00\x00\x00\x00\x00\x00\x01\x02\x00\x00\x00\x01\x00\x02\x05\x01\x01\x09\x06\x00\x00"},
	}
}

// P11.2: the bytes of each kind, one by one.
func TestEncodeBytes(t *testing.T) {
	for _, c := range written() {
		b, err := Encode(c.r)
		if err != api.OK || string(b) != c.want {
			t.Errorf("%s: % x %v, want % x", told(c.r), b, err, c.want)
		}
		r, err := Decode([]byte(c.want))
		if err != api.OK || told(r) != told(c.r) {
			t.Errorf("% x: %s %v, want %s", c.want, told(r), err, told(c.r))
		}
	}
}

// hand lays bytes another way: by the library's numbers.
type hand struct {
	b []byte
}

func (h *hand) num(n uint64) { h.b = binary.AppendUvarint(h.b, n) }

func (h *hand) text(s string) {
	h.num(uint64(len(s)))
	h.b = append(h.b, s...)
}

func (h *hand) flag(is bool) {
	if is {
		h.num(1)
	} else {
		h.num(0)
	}
}

func (h *hand) tid(t api.Tid) {
	h.num(t.Num)
	h.num(uint64(t.Node))
}

func (h *hand) texts(list []string) {
	h.num(uint64(len(list)))
	for _, s := range list {
		h.text(s)
	}
}

func (h *hand) ints(list []int) {
	h.num(uint64(len(list)))
	for _, n := range list {
		h.num(uint64(n))
	}
}

// laid is a record's bytes by another hand, also those of one that isn't right, as far as bytes can tell it.
func laid(r Rec) []byte {
	h := hand{}
	h.num(uint64(r.Kind))
	h.tid(r.Tid)
	if r.Kind == Update {
		h.text(r.Key)
		h.flag(r.Was)
		h.text(r.Old)
	}
	if r.Kind == Update || r.Kind == Undo {
		h.num(r.Prev)
		h.num(uint64(len(r.Pages)))
		for _, c := range r.Pages {
			b, _ := page.Encode(c.P, 0)
			h.num(uint64(c.N))
			h.text(string(b))
		}
	}
	if r.Kind == Prepare {
		h.texts(r.Reads)
	}
	if r.Kind == Decide {
		h.ints(r.Nodes)
	}
	if r.Kind == Check {
		h.check(r)
	}
	return h.b
}

func (h *hand) check(r Rec) {
	h.num(uint64(len(r.Opens)))
	for _, o := range r.Opens {
		h.tid(o.Tid)
		h.num(o.Last)
		h.num(o.First)
		h.num(uint64(o.Count))
		h.flag(o.Ready)
		h.texts(o.Reads)
	}
	h.num(uint64(len(r.Dones)))
	for _, d := range r.Dones {
		h.tid(d.Tid)
		h.ints(d.Nodes)
	}
}

// P11.2: each record that is right: as bytes, and back.
func TestEncodeDecode(t *testing.T) {
	for name, r := range rightRecs() {
		b, err := Encode(r)
		if err != api.OK || !bytes.Equal(b, laid(r)) {
			t.Errorf("%s: % x %v, want % x", name, b, err, laid(r))
			continue
		}
		again, err := Decode(b)
		if err != api.OK || told(again) != told(r) {
			t.Errorf("%s: %s %v, want %s", name, told(again), err, told(r))
		}
	}
}

// P11.2: a record that isn't right has no bytes; what would be its bytes is no record.
func TestEncodeWrong(t *testing.T) {
	for name, r := range wrongRecs() {
		if b, err := Encode(r); err != api.ErrArg || len(b) > 0 {
			t.Errorf("%s: % x %v", name, b, err)
		}
		isBad(t, name, laid(r))
	}
}

// sized is a Check that is right, and has so many bytes.
func sized(t *testing.T, want int) Rec {
	t.Helper()
	r := opened(tids(7)...)
	for i := range r.Opens {
		if left := want - len(laid(r)); left > 0 {
			r.Opens[i].Reads = keys(min(left/25, MaxReads), 24)
		}
	}
	for i := range r.Opens {
		// A number has nine bytes at most: up to eight more.
		if more := min(want-len(laid(r)), 8); more > 0 {
			r.Opens[i].Last = 1 << (7 * more)
		}
	}
	if !r.Right() || len(laid(r)) != want {
		t.Fatal("sized", want, len(laid(r)), r.Right())
	}
	return r
}

// P11.2: as many bytes as an entry may have, and more.
func TestEncodeMany(t *testing.T) {
	for _, size := range []int{16383, 16384} {
		r := sized(t, size)
		b, err := Encode(r)
		if err != api.OK || !bytes.Equal(b, laid(r)) {
			t.Error(size, len(b), err)
		}
		if again, err := Decode(b); err != api.OK || told(again) != told(r) {
			t.Error(size, "Decode", err)
		}
	}
	most := opened(tids(200)...)
	for i := range most.Opens {
		most.Opens[i].Reads = keys(100, 24)
	}
	for _, r := range []Rec{sized(t, 16385), sized(t, 16400), most} {
		if b, err := Encode(r); err != api.ErrMany || len(b) > 0 {
			t.Error(len(laid(r)), len(b), err)
		}
		isBad(t, "more than an entry", laid(r))
	}
}

// P11.2, rule 2: a record that isn't right, and has too many bytes, isn't right.
func TestEncodeArgAheadOfMany(t *testing.T) {
	r := sized(t, 16500)
	r.Opens[0].Count = -1
	if b, err := Encode(r); err != api.ErrArg || len(b) > 0 {
		t.Error(len(b), err)
	}
}

// isBad tells of bytes that Decode must refuse, beside no record.
func isBad(t *testing.T, name string, b []byte) {
	t.Helper()
	if r, err := Decode(b); err != api.ErrBad || told(r) != told(Rec{}) {
		t.Errorf("%s, % x: %s %v", name, b, told(r), err)
	}
}

// P11.2: bytes of no record.
func TestDecodeBad(t *testing.T) {
	for name, s := range map[string]string{
		"nothing":               "",
		"a nought":              "\x00",
		"kind 0":                "\x00\x05\x01",
		"kind 9":                "\x09\x05\x01",
		"kind 260":              "\x84\x02\x05\x01",
		"kind alone":            "\x04",
		"no node":               "\x04\x05",
		"more behind":           "\x04\x05\x01\x00",
		"kind longer":           "\x84\x00\x05\x01",
		"Num longer":            "\x04\x85\x00\x01",
		"node longer":           "\x04\x05\x81\x00",
		"Num above MaxTid":      "\x04\x81\x80\x80\x80\x80\x20\x01",
		"node 64":               "\x04\x05\x40",
		"a number of 65 bits":   "\x02\x05\x01\xff\xff\xff\xff\xff\xff\xff\xff\xff\x02\x00",
		"a number without end":  "\x02\x05\x01\x80",
		"update, no Key":        "\x01\x05\x01\x00\x00\x00\x00\x00",
		"update, Key of 25":     "\x01\x05\x01\x19" + strings.Repeat("k", 25) + "\x00\x00\x00\x00",
		"update, Was 2":         "\x01\x05\x01\x01k\x02\x00\x00\x00",
		"update, Was 255":       "\x01\x05\x01\x01k\xff\x01\x00\x00\x00",
		"update, Was longer":    "\x01\x05\x01\x01k\x81\x00\x00\x00\x00",
		"update, not longer":    "\x01\x05\x01\x01k\x80\x00\x00\x00\x00",
		"update, Old, not Was":  "\x01\x05\x01\x01k\x00\x01v\x00\x00",
		"update, Old of 49":     "\x01\x05\x01\x01k\x01\x31" + strings.Repeat("v", 49) + "\x00\x00",
		"update, Prev longer":   "\x01\x05\x01\x01k\x00\x00\x89\x00\x00",
		"undo, Prev above 2^62": "\x02\x05\x01\x81\x80\x80\x80\x80\x80\x80\x80\x40\x00",
		"undo, 31 pages":        "\x02\x05\x01\x00\x1f",
		"undo, pages longer":    "\x02\x05\x01\x00\x80\x00",
		"undo, very many pages": "\x02\x05\x01\x00\xff\xff\xff\xff\xff\xff\xff\xff\xff\x01",
		"prepare, 101 reads":    "\x03\x05\x01\x65" + strings.Repeat("\x01a", 101),
		"prepare, a Read twice": "\x03\x05\x01\x02\x01a\x01a",
		"prepare, they fall":    "\x03\x05\x01\x02\x01b\x01a",
		"prepare, length":       "\x03\x05\x01\x01\x81\x00a",
		"prepare, too few":      "\x03\x05\x01\x02\x01a",
		"decide, node 64":       "\x06\x05\x01\x01\x40",
		"decide, twice":         "\x06\x05\x01\x02\x07\x07",
		"decide, node longer":   "\x06\x05\x01\x01\x87\x00",
		"decide, count longer":  "\x06\x05\x01\x81\x00\x07",
		"check with a Tid":      "\x08\x05\x01\x00\x00",
		"check with a node":     "\x08\x00\x01\x00\x00",
		"check, no Dones":       "\x08\x00\x00\x00",
		"check, 201 Opens":      "\x08\x00\x00\xc9\x01",
		"check, Ready 2":        "\x08\x00\x00\x01\x05\x01\x00\x00\x00\x02\x00\x00",
		"check, Ready longer":   "\x08\x00\x00\x01\x05\x01\x00\x00\x00\x81\x00\x00\x00",
		"check, Count above":    "\x08\x00\x00\x01\x05\x01\x00\x00\x81\x80\x80\x80\x04\x00\x00\x00",
		"check, the same twice": "\x08\x00\x00\x02\x05\x01\x00\x00\x00\x00\x00\x05\x01\x00\x00\x00\x00\x00\x00",
		"check, a Done twice":   "\x08\x00\x00\x00\x02\x05\x01\x00\x05\x01\x00",
	} {
		isBad(t, name, []byte(s))
	}
}

// P11.2: texts that aren't a page's bytes of the number 0, or have anything behind them.
func TestDecodePages(t *testing.T) {
	p := leaf(1).P
	image := func(lsn uint64) string {
		b, err := page.Encode(p, lsn)
		if err != api.OK {
			t.Fatal(err)
		}
		return string(b)
	}
	wrap := func(image string) []byte {
		h := hand{b: []byte("\x02\x05\x01\x09\x01\x07")}
		h.text(image)
		return h.b
	}
	if r, err := Decode(wrap(image(0))); err != api.OK || len(r.Pages) != 1 || r.Pages[0].N != 7 || !r.Pages[0].P.Same(p) {
		t.Error(told(r), err)
	}
	for name, s := range map[string]string{
		"no text":             "",
		"no page":             "x",
		"a page of no kind":   "\x00\x00\x00",
		"kind 5":              "\x05\x00\x00",
		"the number 1":        image(1),
		"the number 300":      image(300),
		"the number 2^63 - 1": image(math.MaxInt64),
		"the number 2^63":     image(math.MaxInt64 + 1),
		"a nought behind":     image(0) + "\x00",
		"a sector":            image(0) + strings.Repeat("\x00", 512-len(image(0))),
		"above a sector":      image(0) + strings.Repeat("\x00", 513-len(image(0))),
		"more behind":         image(0) + "\x01",
		"cut short":           image(0)[:len(image(0))-1],
		"its number longer":   "\x01\x80\x00" + image(0)[2:],
		"keys that fall":      "\x01\x00\x02\x01b\x00\x01a\x00",
		"its page's Kid":      "\x02\x00\x02\x01\x01a\x80\x80\x04",
	} {
		isBad(t, name, wrap(s))
	}
	for name, s := range map[string]string{
		"page 65536":       "\x02\x05\x01\x09\x01\x80\x80\x04\x03\x04\x00\x07",
		"page longer":      "\x02\x05\x01\x09\x01\x81\x00\x03\x04\x00\x07",
		"a length, longer": "\x02\x05\x01\x09\x01\x01\x83\x00\x04\x00\x07",
		"pages that fall":  "\x02\x05\x01\x09\x02\x02\x03\x04\x00\x07\x01\x03\x04\x00\x07",
		"a page twice":     "\x02\x05\x01\x09\x02\x02\x03\x04\x00\x07\x02\x03\x04\x00\x07",
	} {
		isBad(t, name, []byte(s))
	}
}

// P11.2: bytes that are cut short, and bytes with more behind them.
func TestDecodeCut(t *testing.T) {
	for name, r := range rightRecs() {
		b := laid(r)
		for n := range b {
			// All places of short ones, some of long ones.
			if n < 60 || n%97 == 0 || n == len(b)-1 {
				isBad(t, name+" cut short", b[:n])
			}
		}
		for _, more := range []string{"\x00", "\x01", "\x80", "\x00\x00"} {
			isBad(t, name+" with more", append(bytes.Clone(b), more...))
		}
	}
}

// onlyLaid tells of bytes that were taken, and aren't those of what was told.
func onlyLaid(t *testing.T, name string, b []byte) {
	t.Helper()
	r, err := Decode(b)
	if err != api.OK {
		isBad(t, name, b)
		return
	}
	if !r.Right() || !bytes.Equal(b, laid(r)) {
		t.Errorf("%s, % x: taken as %s", name, b, told(r))
	}
}

// P11.2: whatever bytes Decode takes are those that Encode lays: with any one byte turned, taken out or put in.
func TestDecodeTurned(t *testing.T) {
	rnd := rand.New(rand.NewSource(11))
	for _, c := range written() {
		b := []byte(c.want)
		for i := range b {
			for v := range 256 {
				turned := bytes.Clone(b)
				turned[i] = byte(v)
				onlyLaid(t, "turned", turned)
			}
			onlyLaid(t, "one less", append(bytes.Clone(b[:i]), b[i+1:]...))
			onlyLaid(t, "one more", append(append(bytes.Clone(b[:i]), byte(rnd.Intn(256))), b[i:]...))
		}
	}
	for range 50000 {
		b := make([]byte, rnd.Intn(16))
		for i := range b {
			b[i] = byte(rnd.Intn(9))
		}
		onlyLaid(t, "any", b)
	}
}

// P11.2: records of many kinds at random, as bytes and back.
func TestRandom(t *testing.T) {
	for seed := range int64(3000) {
		r := anyRec(rand.New(rand.NewSource(seed)))
		b, err := Encode(r)
		if err != api.OK || !bytes.Equal(b, laid(r)) {
			t.Fatalf("seed %d, %s: % x %v", seed, told(r), b, err)
		}
		if again, err := Decode(b); err != api.OK || told(again) != told(r) {
			t.Fatalf("seed %d, %s: %s %v", seed, told(r), told(again), err)
		}
	}
}

// anyRec is a right record, of less than an entry's bytes.
func anyRec(rnd *rand.Rand) Rec {
	number := func() uint64 { return (1<<62 - 1) >> rnd.Intn(62) }
	reads := func() []string { return keys(rnd.Intn(4), 1+rnd.Intn(24)) }
	nodes := func() []int { return upTo(64)[rnd.Intn(64):][:rnd.Intn(2)] }
	r := of(1 + rnd.Intn(8))
	switch r.Kind {
	case Update:
		r.Was = rnd.Intn(2) == 1
		if r.Was {
			r.Old = strings.Repeat("v", rnd.Intn(49))
		}
		r.Prev, r.Pages = number(), leaves(rnd.Intn(31))
	case Undo:
		r.Prev = number()
		n := 0
		for range rnd.Intn(31) {
			r.Pages = append(r.Pages, fullLeaf(n))
			n += 1 + rnd.Intn(2000)
		}
	case Prepare:
		r.Reads = reads()
	case Decide:
		r.Nodes = nodes()
	case Check:
		for _, tid := range tids(rnd.Intn(60)) {
			r.Opens = append(r.Opens, Open{tid, number(), number(), rnd.Intn(1 << 30), rnd.Intn(2) == 1, reads()})
			r.Dones = append(r.Dones, Done{tid, nodes()})
		}
	}
	return r
}

// P11.2, rule 4: what Encode and Decode answer is apart from what they were given, and from itself; what they were given stays.
func TestBytesApart(t *testing.T) {
	for name, r := range rightRecs() {
		was := told(r)
		b, _ := Encode(r)
		twin, _ := Encode(r)
		kept := bytes.Clone(b)
		again, _ := Decode(b)
		if told(r) != was || !bytes.Equal(b, kept) {
			t.Error(name, "an argument was turned")
		}
		clear(b)
		if !bytes.Equal(twin, kept) || told(again) != was {
			t.Error(name, "memory is shared")
		}
	}
}

// P11.2, rule 4: no two lists of a record that was decoded share memory.
func TestListsApart(t *testing.T) {
	full := Rec{Kind: Check}
	for _, tid := range tids(3) {
		full.Opens = append(full.Opens, Open{Tid: tid, Reads: []string{"a", "b"}})
		full.Dones = append(full.Dones, Done{Tid: tid, Nodes: []int{1, 2}})
	}
	b := laid(full)
	r, _ := Decode(b)
	_ = append(r.Opens[0].Reads, "more")
	_ = append(r.Dones[0].Nodes, 9)
	clear(r.Opens[1].Reads)
	clear(r.Dones[1].Nodes)
	full.Opens[1].Reads, full.Dones[1].Nodes = []string{"", ""}, []int{0, 0}
	if told(r) != told(full) {
		t.Error(told(r))
	}
	if other, _ := Decode(b); len(other.Opens) != 3 || len(other.Opens[1].Reads) != 2 || other.Opens[1].Reads[0] != "a" {
		t.Error("two answers share memory", told(other))
	}
}
