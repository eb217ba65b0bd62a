package page

import (
	"bytes"
	"encoding/binary"
	"math"
	"math/rand"
	"strings"
	"testing"

	"dockmaster/api"
)

// P6.2: bytes of each kind, written out.
func TestEncodeBytes(t *testing.T) {
	for _, c := range []struct {
		p    Page
		lsn  uint64
		want string
	}{
		{Page{Kind: Leaf, Keys: []string{"a"}, Vals: []string{"x"}}, 5, "\x01\x05\x01\x01a\x01x"},
		{Page{Kind: Leaf}, 0, "\x01\x00\x00"},
		{Page{Kind: Leaf, Keys: []string{"a", "bc"}, Vals: []string{"", "xyz"}}, 300, "\x01\xac\x02\x02\x01a\x00\x02bc\x03xyz"},
		{Page{Kind: Inner, Keys: []string{"m"}, Kids: []int{3, 65535}}, 1, "\x02\x01\x02\x03\x01m\xff\xff\x03"},
		{Page{Kind: Inner, Keys: []string{"a", "b"}, Kids: []int{9, 0, 300}}, 127, "\x02\x7f\x03\x09\x01a\x00\x01b\xac\x02"},
		{Page{Kind: Meta, Root: 1, Next: 300, Size: 65536, Idle: 2}, 128, "\x03\x80\x01\x01\xac\x02\x80\x80\x04\x02"},
		{Page{Kind: Free, Next: 7}, 2, "\x04\x02\x07"},
		{Page{Kind: Free}, math.MaxInt64, "\x04\xff\xff\xff\xff\xff\xff\xff\xff\x7f\x00"},
		{Page{Kind: Free}, math.MaxInt64 + 1, "\x04\x80\x80\x80\x80\x80\x80\x80\x80\x80\x01\x00"},
		{Page{Kind: Free}, math.MaxUint64, "\x04\xff\xff\xff\xff\xff\xff\xff\xff\xff\x01\x00"},
	} {
		b, err := Encode(c.p, c.lsn)
		if err != api.OK || string(b) != c.want {
			t.Errorf("%v, %d: % x %v, want % x", c.p, c.lsn, b, err, c.want)
		}
		if c.lsn > math.MaxInt64 {
			continue
		}
		if p, lsn, err := Decode([]byte(c.want)); err != api.OK || lsn != c.lsn || !p.Same(c.p) {
			t.Errorf("% x: %v %d %v", c.want, p, lsn, err)
		}
	}
}

// laid is a page's bytes by another hand: the library's way of laying numbers.
func laid(p Page, lsn uint64) []byte {
	b := binary.AppendUvarint(nil, uint64(p.Kind))
	b = binary.AppendUvarint(b, lsn)
	text := func(s string) { b = append(binary.AppendUvarint(b, uint64(len(s))), s...) }
	number := func(n int) { b = binary.AppendUvarint(b, uint64(n)) }
	switch p.Kind {
	case Leaf:
		number(len(p.Keys))
		for i := range p.Keys {
			text(p.Keys[i])
			text(p.Vals[i])
		}
	case Inner:
		number(len(p.Kids))
		number(p.Kids[0])
		for i := range p.Keys {
			text(p.Keys[i])
			number(p.Kids[i+1])
		}
	case Meta:
		number(p.Root)
		number(p.Next)
		number(p.Size)
		number(p.Idle)
	case Free:
		number(p.Next)
	}
	return b
}

// P6.2: each page that is right, at the edges of its entry's number: as bytes, within a sector, and back, with any noughts behind.
func TestEncodeDecode(t *testing.T) {
	for name, p := range rightPages() {
		for _, lsn := range []uint64{0, 1, 127, 128, 1<<63 - 1} {
			b, err := Encode(p, lsn)
			if err != api.OK || !bytes.Equal(b, laid(p, lsn)) || len(b) > api.Sector {
				t.Fatalf("%s, %d: % x %v", name, lsn, b, err)
			}
			for _, more := range []int{0, 1, api.Sector - len(b), 2 * api.Sector} {
				q, n, err := Decode(append(bytes.Clone(b), make([]byte, more)...))
				if err != api.OK || n != lsn || !q.Same(p) {
					t.Errorf("%s, %d, %d noughts: %v %d %v", name, lsn, more, q, n, err)
				}
			}
		}
		b, err := Encode(p, math.MaxUint64)
		if err != api.OK || len(b) > api.Sector {
			t.Errorf("%s, greatest lsn: %d bytes, %v", name, len(b), err)
		}
	}
}

// P6.2: a page that isn't right has no bytes.
func TestEncodeWrong(t *testing.T) {
	for name, p := range wrongPages() {
		if b, err := Encode(p, 0); err != api.ErrArg || len(b) > 0 {
			t.Errorf("%s: % x %v", name, b, err)
		}
	}
}

// isBad tells of bytes that Decode must refuse, beside no page.
func isBad(t *testing.T, name string, b []byte) {
	t.Helper()
	if p, lsn, err := Decode(b); err != api.ErrBad || lsn != 0 || !p.Same(Page{}) {
		t.Errorf("%s, % x: %v %d %v", name, b, p, lsn, err)
	}
}

// P6.2: bytes of no right page.
func TestDecodeBad(t *testing.T) {
	long, wide := strings.Repeat("k", 25), strings.Repeat("v", 49)
	for name, s := range map[string]string{
		"nothing":                   "",
		"a nought":                  "\x00",
		"noughts":                   strings.Repeat("\x00", 512),
		"kind 5":                    "\x05\x00\x00",
		"kind 256":                  "\x80\x02\x00\x00",
		"kind alone":                "\x01",
		"no count":                  "\x01\x05",
		"kind longer than need be":  "\x81\x00\x05\x00",
		"lsn longer than need be":   "\x01\x85\x00\x00",
		"count longer than need be": "\x01\x05\x80\x00",
		"length longer":             "\x01\x05\x01\x81\x00a\x01x",
		"kid longer":                "\x02\x05\x02\x83\x00\x01m\x04",
		"root longer":               "\x03\x05\x81\x00\x00\x00\x00",
		"next longer":               "\x04\x05\x87\x00",
		"lsn of 2^63":               "\x04\x80\x80\x80\x80\x80\x80\x80\x80\x80\x01\x00",
		"lsn of 2^64 - 1":           "\x04\xff\xff\xff\xff\xff\xff\xff\xff\xff\x01\x00",
		"lsn of more than 64 bits":  "\x04\xff\xff\xff\xff\xff\xff\xff\xff\xff\x02\x00",
		"leaf of 7":                 "\x01\x00\x07\x01a\x00\x01b\x00\x01c\x00\x01d\x00\x01e\x00\x01f\x00\x01g\x00",
		"leaf, Keys that fall":      "\x01\x00\x02\x01b\x00\x01a\x00",
		"leaf, a Key twice":         "\x01\x00\x02\x01a\x00\x01a\x00",
		"leaf, a Key of none":       "\x01\x00\x01\x00\x01x",
		"leaf, a Key of 25":         "\x01\x00\x01\x19" + long + "\x00",
		"leaf, a Val of 49":         "\x01\x00\x01\x01a\x31" + wide,
		"leaf of very many":         "\x01\x00\xff\xff\xff\xff\xff\xff\xff\xff\xff\x01",
		"inner of none":             "\x02\x00\x00",
		"inner of 1":                "\x02\x00\x01\x01",
		"inner of 9":                "\x02\x00\x09\x01\x01a\x01\x01b\x01\x01c\x01\x01d\x01\x01e\x01\x01f\x01\x01g\x01\x01h\x01",
		"inner, Kid 65536":          "\x02\x00\x02\x01\x01a\x80\x80\x04",
		"inner, a Key of none":      "\x02\x00\x02\x01\x00\x02",
		"inner, a Key of 25":        "\x02\x00\x02\x01\x19" + long + "\x02",
		"inner, Keys that fall":     "\x02\x00\x03\x01\x01b\x02\x01a\x03",
		"inner, a Key twice":        "\x02\x00\x03\x01\x01a\x02\x01a\x03",
		"meta, Root 65536":          "\x03\x00\x80\x80\x04\x00\x00\x00",
		"meta, Next 65536":          "\x03\x00\x00\x80\x80\x04\x00\x00",
		"meta, Size 65537":          "\x03\x00\x00\x00\x81\x80\x04\x00",
		"meta, Idle above Size":     "\x03\x00\x00\x00\x03\x04",
		"meta, Idle of very much":   "\x03\x00\x00\x00\x03\xff\xff\xff\xff\xff\xff\xff\xff\xff\x01",
		"free, Next 65536":          "\x04\x00\x80\x80\x04",
	} {
		isBad(t, name, []byte(s))
	}
}

// P6.2: bytes that are cut off, and bytes with another one behind them, or behind their noughts.
func TestDecodeCut(t *testing.T) {
	for name, p := range rightPages() {
		b, _ := Encode(p, 300)
		for n := range b {
			isBad(t, name+" cut off", b[:n])
		}
		for _, more := range []string{"\x01", "\x80", "\x00\x01", strings.Repeat("\x00", 500) + "\x01", "\x00\xff\x00"} {
			isBad(t, name+" with more", append(bytes.Clone(b), more...))
		}
	}
}

// P6.2: whatever bytes Decode takes are those that Encode lays, and noughts: with any one byte turned, taken out or put in.
func TestDecodeTurned(t *testing.T) {
	rnd := rand.New(rand.NewSource(6))
	for name, p := range rightPages() {
		b, _ := Encode(p, 5)
		for i := range b {
			for c := range 256 {
				turned := bytes.Clone(b)
				turned[i] = byte(c)
				onlyLaid(t, name, turned)
			}
			onlyLaid(t, name, append(bytes.Clone(b[:i]), b[i+1:]...))
			onlyLaid(t, name, append(append(bytes.Clone(b[:i]), byte(rnd.Intn(256))), b[i:]...))
		}
	}
	for range 20000 {
		b := make([]byte, rnd.Intn(24))
		for i := range b {
			b[i] = byte(rnd.Intn(5))
		}
		onlyLaid(t, "any", b)
	}
}

func onlyLaid(t *testing.T, name string, b []byte) {
	t.Helper()
	p, lsn, err := Decode(b)
	if err != api.OK {
		isBad(t, name, b)
		return
	}
	want := laid(p, lsn)
	if !p.Right() || !bytes.HasPrefix(b, want) || strings.Trim(string(b[len(want):]), "\x00") != "" {
		t.Errorf("%s, % x: taken as %v, %d", name, b, p, lsn)
	}
}

// P6.2, rule 4: what Encode and Decode answer is apart from what they were given, which stays.
func TestBytesApart(t *testing.T) {
	p := leaf("a", "b")
	b, _ := Encode(p, 5)
	twin, _ := Encode(p, 5)
	q, _, _ := Decode(b)
	if !bytes.Equal(b, twin) || !p.Same(leaf("a", "b")) {
		t.Error("an argument was turned", b, p)
	}
	clear(b)
	if !q.Same(leaf("a", "b")) || bytes.Equal(b, twin) {
		t.Error("memory is shared", q, twin)
	}
}
