package num

import (
	"bytes"
	"encoding/binary"
	"math"
	"strings"
	"testing"

	"dockmaster/api"
)

// times is one byte, so many times, and other bytes behind it.
func times(c byte, n int, behind ...byte) []byte {
	return append(bytes.Repeat([]byte{c}, n), behind...)
}

// wantDead fails unless a reader tells an error, and reads nothing any more, whatever it is asked for.
func wantDead(t *testing.T, r *Reader, want api.Errno) {
	t.Helper()
	for range 2 {
		if got := r.Err(); got != want {
			t.Errorf("Err: %v, want %v", got, want)
		}
		if got := r.End(); got != want {
			t.Errorf("End: %v, want %v", got, want)
		}
		if got := r.Left(); got != 0 {
			t.Errorf("Left behind an error: %v", got)
		}
		if got := r.Num(math.MaxUint64); got != 0 {
			t.Errorf("Num behind an error: %v", got)
		}
		if got := r.Text(math.MaxInt); got != "" {
			t.Errorf("Text behind an error: %q", got)
		}
		if got := r.Tid(); got != (api.Tid{}) {
			t.Errorf("Tid behind an error: %v", got)
		}
	}
}

// P1.1: how a number is laid.
func TestPutLaysNumbers(t *testing.T) {
	for _, c := range []struct {
		n    uint64
		want []byte
	}{
		{0, []byte{0}},
		{1, []byte{1}},
		{127, []byte{0x7f}},
		{128, []byte{0x80, 1}},
		{300, []byte{0xac, 2}},
		{16383, []byte{0xff, 0x7f}},
		{16384, []byte{0x80, 0x80, 1}},
		{1 << 40, []byte{0x80, 0x80, 0x80, 0x80, 0x80, 0x20}},
		{1<<63 - 1, times(0xff, 8, 0x7f)},
		{1 << 63, times(0x80, 9, 1)},
		{math.MaxUint64, times(0xff, 9, 1)},
	} {
		if got := Put(nil, c.n); !bytes.Equal(got, c.want) {
			t.Errorf("Put(nil, %d): % x, want % x", c.n, got, c.want)
		}
	}
}

// P1.1: the numbers around each power of two are laid as another program lays them, and read again.
func TestNumbersGoThereAndBack(t *testing.T) {
	for bit := range 64 {
		for _, n := range []uint64{1<<bit - 1, 1 << bit, 1<<bit + 1, -(1 << bit)} {
			b := Put(nil, n)
			if want := binary.AppendUvarint(nil, n); !bytes.Equal(b, want) {
				t.Errorf("Put(nil, %d): % x, want % x", n, b, want)
			}
			r := Read(b)
			if got := r.Num(n); got != n || r.End() != api.OK {
				t.Errorf("Num of %d: %d, %v", n, got, r.End())
			}
		}
	}
}

// P1.1: how a text is laid.
func TestTextLaysTexts(t *testing.T) {
	long := strings.Repeat("x", 300)
	for s, want := range map[string]string{
		"":           "\x00",
		"ab":         "\x02ab",
		"\xff\x00é":  "\x04\xff\x00é",
		long[:127]:   "\x7f" + long[:127],
		long[:128]:   "\x80\x01" + long[:128],
		long:         "\xac\x02" + long,
		"\x80\x80\n": "\x03\x80\x80\n",
	} {
		if got := string(Text(nil, s)); got != want {
			t.Errorf("Text(nil, %q): %q, want %q", s, got, want)
		}
	}
}

// P1.1: how a transaction is laid; a node below 0 as it is as a number of 64 bits.
func TestTidLaysTransactions(t *testing.T) {
	for _, c := range []struct {
		t    api.Tid
		want []byte
	}{
		{api.Tid{}, []byte{0, 0}},
		{api.Tid{Num: 5, Node: 1}, []byte{5, 1}},
		{api.Tid{Num: 300, Node: 63}, []byte{0xac, 2, 63}},
		{api.Tid{Num: 1, Node: 300}, []byte{1, 0xac, 2}},
		{api.Tid{Num: 1, Node: -1}, append([]byte{1}, times(0xff, 9, 1)...)},
		{api.Tid{Num: 1, Node: math.MinInt}, append([]byte{1}, times(0x80, 9, 1)...)},
		{api.Tid{Num: math.MaxUint64, Node: math.MaxInt}, append(times(0xff, 9, 1), times(0xff, 8, 0x7f)...)},
	} {
		if got := Tid(nil, c.t); !bytes.Equal(got, c.want) {
			t.Errorf("Tid(nil, %v): % x, want % x", c.t, got, c.want)
		}
	}
}

// P1.1, rule 4: what is laid stands behind the bytes handed in, in new memory.
func TestLaidBehindInNewMemory(t *testing.T) {
	for name, c := range map[string]struct {
		lay  func(b []byte) []byte
		want string
	}{
		"Put":  {func(b []byte) []byte { return Put(b, 300) }, "head\xac\x02"},
		"Text": {func(b []byte) []byte { return Text(b, "ab") }, "head\x02ab"},
		"Tid":  {func(b []byte) []byte { return Tid(b, api.Tid{Num: 5, Node: 1}) }, "head\x05\x01"},
	} {
		whole := []byte("head, and room behind it")
		b := whole[:4]
		got := c.lay(b)
		if string(got) != c.want {
			t.Errorf("%s: %q, want %q", name, got, c.want)
		}
		if string(whole) != "head, and room behind it" {
			t.Errorf("%s turned what was handed in: %q", name, whole)
		}
		got[0] = 'H'
		if string(b) != "head" {
			t.Errorf("%s shares memory with what was handed in: %q", name, b)
		}
	}
}

// P1.1: numbers that can be read, up to the bound itself, one behind the other.
func TestNumReads(t *testing.T) {
	r := Read([]byte{0, 10, 0xac, 2, 0x7f})
	for i, c := range []struct {
		most, want uint64
		left       int
	}{{0, 0, 4}, {10, 10, 3}, {300, 300, 1}, {math.MaxUint64, 127, 0}} {
		if got := r.Num(c.most); got != c.want || r.Left() != c.left || r.Err() != api.OK {
			t.Errorf("%d: Num(%d): %d, %d left, %v", i, c.most, got, r.Left(), r.Err())
		}
	}
	if r.End() != api.OK {
		t.Error("End", r.End())
	}
}

// P1.1, P1.2: numbers that can't be read; of several errors the one that is named first.
func TestNumErrors(t *testing.T) {
	for _, c := range []struct {
		name string
		in   []byte
		most uint64
		want api.Errno
	}{
		{"no byte", nil, math.MaxUint64, api.ErrShort},
		{"an end too early", []byte{0x80}, math.MaxUint64, api.ErrShort},
		{"an end too early, of much", []byte{0xff, 0xff}, 0, api.ErrShort},
		{"an end ahead of the tenth byte", times(0xff, 9), math.MaxUint64, api.ErrShort},
		{"a last byte of 0", []byte{0x80, 0}, math.MaxUint64, api.ErrForm},
		{"a last byte of 0, bytes behind", []byte{0x81, 0x80, 0, 7}, math.MaxUint64, api.ErrForm},
		{"a last byte of 0, above most", []byte{0x8b, 0}, 10, api.ErrForm},
		{"a tenth byte of 0", times(0x80, 9, 0), math.MaxUint64, api.ErrForm},
		{"a tenth byte of 2", times(0xff, 9, 2), math.MaxUint64, api.ErrForm},
		{"a tenth byte of 7f", times(0x80, 9, 0x7f), 0, api.ErrForm},
		{"a tenth byte that says more, and an end", times(0x80, 10), math.MaxUint64, api.ErrForm},
		{"a tenth byte of 81, and an end", times(0x80, 9, 0x81), math.MaxUint64, api.ErrForm},
		{"a tenth byte that says more, and more", times(0xff, 12, 1), math.MaxUint64, api.ErrForm},
		{"one above most", []byte{11}, 10, api.ErrMany},
		{"1 above 0", []byte{1}, 0, api.ErrMany},
		{"the greatest above one less", times(0xff, 9, 1), math.MaxUint64 - 1, api.ErrMany},
	} {
		t.Run(c.name, func(t *testing.T) {
			r := Read(c.in)
			if n := r.Num(c.most); n != 0 {
				t.Errorf("Num: %d", n)
			}
			wantDead(t, r, c.want)
		})
	}
}

// P1.1: all numbers of one and two bytes, held against another program's reading.
func TestNumOfAllPairs(t *testing.T) {
	const most = 5000
	for x := range 1 << 16 {
		in := []byte{byte(x), byte(x >> 8)}
		want, size := binary.Uvarint(in)
		err := api.OK
		switch {
		case size <= 0:
			want, err = 0, api.ErrShort
		case size == 2 && in[1] == 0:
			want, err = 0, api.ErrForm
		case want > most:
			want, err = 0, api.ErrMany
		}
		left := 0
		if err == api.OK {
			left = 2 - size
		}
		r := Read(in)
		if got := r.Num(most); got != want || r.Err() != err || r.Left() != left {
			t.Fatalf("% x: %d, %v, %d left; want %d, %v, %d", in, got, r.Err(), r.Left(), want, err, left)
		}
	}
}

// P1.1: texts that can be read, up to the bound itself.
func TestTextReads(t *testing.T) {
	for _, c := range []struct {
		in   string
		most int
		want string
		left int
	}{
		{"\x00", 0, "", 0},
		{"\x00x", -1, "", 1},
		{"\x00", math.MinInt, "", 0},
		{"\x02ab", 2, "ab", 0},
		{"\x02abc", math.MaxInt, "ab", 1},
		{"\x03\xff\x00\x80", 3, "\xff\x00\x80", 0},
		{"\xac\x02" + strings.Repeat("x", 301), 300, strings.Repeat("x", 300), 1},
	} {
		r := Read([]byte(c.in))
		if got := r.Text(c.most); got != c.want || r.Err() != api.OK || r.Left() != c.left {
			t.Errorf("Text(%d) of %q: %q, %v, %d left", c.most, c.in, got, r.Err(), r.Left())
		}
	}
}

// P1.1, P1.2: texts that can't be read.
func TestTextErrors(t *testing.T) {
	for _, c := range []struct {
		name string
		in   string
		most int
		want api.Errno
	}{
		{"no byte", "", 5, api.ErrShort},
		{"a length cut off", "\x82", 5, api.ErrShort},
		{"a length whose last byte is 0", "\x82\x00ab", 5, api.ErrForm},
		{"a length of more than 64 bits", string(times(0xff, 9, 2)), 5, api.ErrForm},
		{"a length above most", "\x03abc", 2, api.ErrMany},
		{"a length above most, and too few bytes", "\x03a", 2, api.ErrMany},
		{"a length above 0", "\x01a", 0, api.ErrMany},
		{"a length with most below 0", "\x01a", -1, api.ErrMany},
		{"a length with most far below 0", "\x01a", math.MinInt, api.ErrMany},
		{"a byte too few", "\x03ab", 3, api.ErrShort},
		{"no byte behind the length", "\x01", 1, api.ErrShort},
		{"the greatest length", string(times(0xff, 8, 0x7f, 'a')), math.MaxInt, api.ErrShort},
		{"a length above all bounds", string(times(0xff, 9, 1, 'a')), math.MaxInt, api.ErrMany},
	} {
		t.Run(c.name, func(t *testing.T) {
			r := Read([]byte(c.in))
			if s := r.Text(c.most); s != "" {
				t.Errorf("Text: %q", s)
			}
			wantDead(t, r, c.want)
		})
	}
}

// P1.1: transactions that can be read, up to the greatest.
func TestTidReads(t *testing.T) {
	for _, x := range []api.Tid{{}, {Num: 5, Node: 1}, {Num: 300, Node: 63}, {Num: api.MaxTid, Node: api.MaxNodes - 1}} {
		r := Read(append(Tid(nil, x), 9))
		if got := r.Tid(); got != x || r.Err() != api.OK || r.Left() != 1 {
			t.Errorf("Tid of %v: %v, %v, %d left", x, got, r.Err(), r.Left())
		}
	}
}

// P1.1, P1.2: transactions that can't be read; nothing of a half is told.
func TestTidErrors(t *testing.T) {
	for _, c := range []struct {
		name string
		in   []byte
		want api.Errno
	}{
		{"no byte", nil, api.ErrShort},
		{"a number cut off", []byte{0x85}, api.ErrShort},
		{"no node", []byte{5}, api.ErrShort},
		{"a node cut off", []byte{5, 0x81}, api.ErrShort},
		{"a number whose last byte is 0", []byte{0x85, 0, 1}, api.ErrForm},
		{"a node whose last byte is 0", []byte{5, 0x81, 0}, api.ErrForm},
		{"a number above MaxTid", Tid(nil, api.Tid{Num: api.MaxTid + 1, Node: 1}), api.ErrMany},
		{"a number above MaxTid, and no node", Put(nil, api.MaxTid+1), api.ErrMany},
		{"a node of MaxNodes", []byte{5, 64}, api.ErrMany},
		{"a node below 0", Tid(nil, api.Tid{Num: 5, Node: -1}), api.ErrMany},
		{"a node of more than 64 bits", append([]byte{5}, times(0xff, 9, 2)...), api.ErrForm},
	} {
		t.Run(c.name, func(t *testing.T) {
			r := Read(c.in)
			if x := r.Tid(); x != (api.Tid{}) {
				t.Errorf("Tid: %v", x)
			}
			wantDead(t, r, c.want)
		})
	}
}

// P1.2: the first error stays, though what stands behind it could be read, or is another one.
func TestFirstErrorStays(t *testing.T) {
	r := Read([]byte{3, 11, 0x80, 0, 5, 1, 2, 'a', 'b'})
	if n := r.Num(3); n != 3 || r.Left() != 8 {
		t.Error("Num", n, r.Left())
	}
	if n := r.Num(10); n != 0 {
		t.Error("Num", n)
	}
	wantDead(t, r, api.ErrMany)
}

// P1.2: End asks whether bytes are left; asking is no error of the reader's own (rule 3).
func TestEnd(t *testing.T) {
	r := Read([]byte{1, 2})
	for want := uint64(1); want <= 2; want++ {
		if r.End() != api.ErrForm || r.Err() != api.OK || r.Left() != int(3-want) {
			t.Error("End with bytes left", r.End(), r.Err(), r.Left())
		}
		if n := r.Num(9); n != want {
			t.Error("Num behind End", n)
		}
	}
	if r.End() != api.OK || r.Err() != api.OK || r.Left() != 0 {
		t.Error("End at the end", r.End(), r.Err(), r.Left())
	}
	r.Num(9)
	wantDead(t, r, api.ErrShort)
}

// P1.2: a reader of nothing is at its end.
func TestReadOfNothing(t *testing.T) {
	for _, r := range []*Reader{Read(nil), Read([]byte{}), {}} {
		if r.Err() != api.OK || r.Left() != 0 || r.End() != api.OK {
			t.Error(r.Err(), r.Left(), r.End())
		}
		r.Tid()
		wantDead(t, r, api.ErrShort)
	}
}

// P1.2: a nil Reader.
func TestNilReader(t *testing.T) {
	wantDead(t, nil, api.ErrArg)
}

// Rule 4: a reader neither turns the bytes that it is given, nor sees how they are turned later.
func TestReadKeepsApart(t *testing.T) {
	b := []byte{7, 2, 'a', 'b', 5, 1}
	r := Read(b)
	clear(b)
	if n, s, x := r.Num(7), r.Text(2), r.Tid(); n != 7 || s != "ab" || x != (api.Tid{Num: 5, Node: 1}) || r.End() != api.OK {
		t.Error(n, s, x, r.End())
	}
	if !bytes.Equal(b, make([]byte, 6)) {
		t.Error("turned", b)
	}
}
