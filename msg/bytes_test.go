package msg

import (
	"bytes"
	"math"
	"math/rand"
	"slices"
	"strings"
	"testing"

	"dockmaster/api"
)

type wrote struct {
	m    Msg
	want string
}

// written is messages of each kind, and their bytes written out.
func written() []wrote {
	five := api.Tid{Num: 5, Node: 2}
	far := api.Tid{Num: 1 << 40, Node: 63}
	const num40, twenty = "\x80\x80\x80\x80\x80\x20", "\x80\x80\x40"
	key, val := strings.Repeat("k", 24), strings.Repeat("v", 48)
	return []wrote{
		{Msg{Kind: Ack, From: 1, Tid: api.Tid{Num: 5}}, "\x08\x01\x00\x05\x00"},
		{Msg{Kind: Hello, From: 2, To: 1, Tid: five}, "\x01\x02\x01\x05\x02"},
		{Msg{Kind: Hello, From: 63, To: 63, Tid: far}, "\x01\x3f\x3f" + num40 + "\x3f"},
		{Msg{Kind: Hello}, "\x01\x00\x00\x00\x00"},
		{Msg{Kind: Welcome, From: 1, To: 2, Tid: five}, "\x02\x01\x02\x05\x02\x00"},
		{Msg{Kind: Welcome, From: 1, To: 2, Tid: five, Life: 300}, "\x02\x01\x02\x05\x02\xac\x02"},
		{Msg{Kind: Welcome, From: 1, To: 2, Tid: five, Life: 1 << 40}, "\x02\x01\x02\x05\x02" + num40},
		{Msg{Kind: Do, From: 2, To: 1, Tid: five, Life: 9, N: 1, Op: Put, Key: "k", Val: "xyz"}, "\x03\x02\x01\x05\x02\x09\x01\x02\x01k\x03xyz"},
		{Msg{Kind: Do, From: 2, To: 1, Tid: five, Life: 9, N: 300, Op: Get, Key: "ab"}, "\x03\x02\x01\x05\x02\x09\xac\x02\x01\x02ab\x00"},
		{Msg{Kind: Do, From: 2, To: 1, Tid: five, Op: Drop, Key: "\x00"}, "\x03\x02\x01\x05\x02\x00\x00\x03\x01\x00\x00"},
		{Msg{Kind: Do, From: 63, To: 63, Tid: far, Life: 1 << 40, N: MaxN, Op: Put, Key: key, Val: val}, "\x03\x3f\x3f" + num40 + "\x3f" + num40 + twenty + "\x02\x18" + key + "\x30" + val},
		{Msg{Kind: Did, From: 1, To: 2, Tid: five}, "\x04\x01\x02\x05\x02\x00\x00\x00\x00"},
		{Msg{Kind: Did, From: 1, To: 2, Tid: five, N: 1, Code: api.ErrDied}, "\x04\x01\x02\x05\x02\x01\x0d\x00\x00"},
		{Msg{Kind: Did, From: 1, To: 2, Tid: five, N: 3, Has: true}, "\x04\x01\x02\x05\x02\x03\x00\x01\x00"},
		{Msg{Kind: Did, From: 1, To: 2, Tid: five, N: 3, Has: true, Val: "xyz"}, "\x04\x01\x02\x05\x02\x03\x00\x01\x03xyz"},
		{Msg{Kind: Did, From: 63, To: 63, Tid: far, N: MaxN, Code: api.ErrSession, Has: true, Val: val}, "\x04\x3f\x3f" + num40 + "\x3f" + twenty + "\x11\x01\x30" + val},
		{Msg{Kind: Prepare, From: 2, To: 1, Tid: five}, "\x05\x02\x01\x05\x02\x00\x00"},
		{Msg{Kind: Prepare, From: 2, To: 1, Tid: five, Life: 9, N: 128}, "\x05\x02\x01\x05\x02\x09\x80\x01"},
		{Msg{Kind: Vote, From: 1, To: 2, Tid: five}, "\x06\x01\x02\x05\x02\x00"},
		{Msg{Kind: Vote, From: 1, To: 2, Tid: five, Code: api.ErrSession}, "\x06\x01\x02\x05\x02\x11"},
		{Msg{Kind: Commit, From: 2, To: 1, Tid: five}, "\x07\x02\x01\x05\x02"},
		{Msg{Kind: Abort, From: 2, To: 1, Tid: five}, "\x09\x02\x01\x05\x02"},
		{Msg{Kind: Ask, From: 1, To: 2, Tid: five}, "\x0a\x01\x02\x05\x02"},
	}
}

// P15.2: the chapter's example, and each kind, byte by byte, there and back.
func TestWritten(t *testing.T) {
	seen := map[int]bool{}
	for _, c := range written() {
		seen[c.m.Kind] = true
		if b, err := Encode(c.m); err != api.OK || string(b) != c.want {
			t.Errorf("%+v: % x %d, want % x", c.m, b, err, c.want)
		}
		if m, err := Decode([]byte(c.want)); err != api.OK || m != c.m {
			t.Errorf("% x: %+v %d, want %+v", c.want, m, err, c.m)
		}
	}
	if len(seen) != kinds {
		t.Error("a kind isn't there", seen)
	}
}

// P15.2: each kind with each field turned: what is right as bytes, and back; what isn't has none, and what would be its bytes is no message, or another one's that is right.
func TestEncodeDecode(t *testing.T) {
	for _, c := range turns() {
		for _, kind := range append(all(), math.MinInt, -1, 0, 11, math.MaxInt) {
			m := plain(kind, c.turn)
			b, err := Encode(m)
			if !slices.Contains(c.of, kind) {
				if err != api.ErrArg || len(b) > 0 {
					t.Errorf("kind %d, %s: % x %d", kind, c.name, b, err)
				}
				holds(t, c.name, laid(m))
				continue
			}
			if err != api.OK || !bytes.Equal(b, laid(m)) {
				t.Errorf("kind %d, %s: % x %d, want % x", kind, c.name, b, err, laid(m))
			}
			if again, err := Decode(b); err != api.OK || again != m {
				t.Errorf("kind %d, %s: %+v %d", kind, c.name, again, err)
			}
		}
	}
	if b, err := Encode(Msg{}); err != api.ErrArg || len(b) > 0 {
		t.Errorf("nothing: % x %d", b, err)
	}
}

// P15.2: bytes of messages that aren't right, and no bytes.
func TestDecodeWrong(t *testing.T) {
	key, val := strings.Repeat("k", 25), strings.Repeat("v", 49)
	isBad(t, "nil", nil)
	for name, s := range map[string]string{
		"no bytes":              "",
		"kind 0":                "\x00\x01\x00\x05\x00",
		"kind 11":               "\x0b\x01\x00\x05\x00",
		"kind 264":              "\x88\x02\x01\x00\x05\x00",
		"kind 2^32 and 8":       "\x88\x80\x80\x80\x10\x01\x00\x05\x00",
		"From 64":               "\x08\x40\x00\x05\x00",
		"From 2^64 - 1":         "\x08\xff\xff\xff\xff\xff\xff\xff\xff\xff\x01\x00\x05\x00",
		"To 64":                 "\x08\x01\x40\x05\x00",
		"To 256":                "\x08\x01\x80\x02\x05\x00",
		"Num 2^40 and 1":        "\x08\x01\x00\x81\x80\x80\x80\x80\x20\x00",
		"Node 64":               "\x08\x01\x00\x05\x40",
		"an Ack with more":      "\x08\x01\x00\x05\x00\x00",
		"Life 2^40 and 1":       "\x02\x01\x02\x05\x02\x81\x80\x80\x80\x80\x20",
		"Life 2^64":             "\x02\x01\x02\x05\x02\x80\x80\x80\x80\x80\x80\x80\x80\x80\x02",
		"N MaxN and 1":          "\x05\x02\x01\x05\x02\x00\x81\x80\x40",
		"N 2^64 - 1":            "\x05\x02\x01\x05\x02\x00\xff\xff\xff\xff\xff\xff\xff\xff\xff\x01",
		"Op 0":                  "\x03\x02\x01\x05\x02\x09\x01\x00\x01k\x00",
		"Op 4":                  "\x03\x02\x01\x05\x02\x09\x01\x04\x01k\x00",
		"Op 258":                "\x03\x02\x01\x05\x02\x09\x01\x82\x02\x01k\x00",
		"no Key":                "\x03\x02\x01\x05\x02\x09\x01\x01\x00\x00",
		"a Key of 25":           "\x03\x02\x01\x05\x02\x09\x01\x01\x19" + key + "\x00",
		"a Key cut short":       "\x03\x02\x01\x05\x02\x09\x01\x01\x03k\x00",
		"a Val of a Get":        "\x03\x02\x01\x05\x02\x09\x01\x01\x01k\x01v",
		"a Val of a Drop":       "\x03\x02\x01\x05\x02\x09\x01\x03\x01k\x01v",
		"a Val of 49 of a Put":  "\x03\x02\x01\x05\x02\x09\x01\x02\x01k\x31" + val,
		"a Val without Has":     "\x04\x01\x02\x05\x02\x03\x00\x00\x01v",
		"a Val of 49 of a Did":  "\x04\x01\x02\x05\x02\x03\x00\x01\x31" + val,
		"a Has of 2":            "\x04\x01\x02\x05\x02\x03\x00\x02\x00",
		"a Has of 2 and a Val":  "\x04\x01\x02\x05\x02\x03\x00\x02\x01v",
		"a Has of 257":          "\x04\x01\x02\x05\x02\x03\x00\x81\x02\x00",
		"a Did's Code 18":       "\x04\x01\x02\x05\x02\x03\x12\x00\x00",
		"a Vote's Code 18":      "\x06\x01\x02\x05\x02\x12",
		"a Vote's Code 2^64-1":  "\x06\x01\x02\x05\x02\xff\xff\xff\xff\xff\xff\xff\xff\xff\x01",
		"a Vote's Code 256":     "\x06\x01\x02\x05\x02\x80\x02",
		"a Vote without a Code": "\x06\x01\x02\x05\x02",
		"a Commit with a Code":  "\x07\x02\x01\x05\x02\x01",
	} {
		isBad(t, name, []byte(s))
	}
}

// P15.2: numbers in more bytes than they take.
func TestDecodeLonger(t *testing.T) {
	for name, s := range map[string]string{
		"Kind":            "\x88\x00\x01\x00\x05\x00",
		"From":            "\x08\x81\x00\x00\x05\x00",
		"To":              "\x08\x01\x80\x00\x05\x00",
		"Num":             "\x08\x01\x00\x85\x00\x00",
		"Num, in ten":     "\x08\x01\x00\x85\x80\x80\x80\x80\x80\x80\x80\x80\x00\x00",
		"Node":            "\x08\x01\x00\x05\x80\x00",
		"Life":            "\x02\x01\x02\x05\x02\x89\x00",
		"N":               "\x05\x02\x01\x05\x02\x09\x83\x00",
		"Op":              "\x03\x02\x01\x05\x02\x09\x01\x82\x00\x01k\x01v",
		"a Key's length":  "\x03\x02\x01\x05\x02\x09\x01\x02\x81\x00k\x01v",
		"a Val's length":  "\x03\x02\x01\x05\x02\x09\x01\x02\x01k\x81\x00v",
		"a Code":          "\x06\x01\x02\x05\x02\x91\x00",
		"Has":             "\x04\x01\x02\x05\x02\x03\x00\x81\x00\x01v",
		"no Has":          "\x04\x01\x02\x05\x02\x03\x00\x80\x00\x00",
		"a Did's no text": "\x04\x01\x02\x05\x02\x03\x00\x01\x80\x00",
	} {
		isBad(t, name, []byte(s))
	}
}

// P15.2: each beginning of a message's bytes, and these with a byte more, or several, behind them.
func TestDecodeCut(t *testing.T) {
	for _, c := range written() {
		b := []byte(c.want)
		for n := range b {
			isBad(t, "cut short", b[:n])
		}
		for v := range 256 {
			isBad(t, "with one more", append(bytes.Clone(b), byte(v)))
		}
		isBad(t, "twice", append(bytes.Clone(b), b...))
	}
}

// P15.2: with any one byte turned, taken out or put in, and of any bytes: ErrBad where there is no such message, else the one whose bytes they are.
func TestDecodeTurned(t *testing.T) {
	rnd := rand.New(rand.NewSource(152))
	for _, c := range written() {
		b := []byte(c.want)
		for i := range b {
			for v := range 256 {
				turned := bytes.Clone(b)
				turned[i] = byte(v)
				holds(t, "turned", turned)
			}
			holds(t, "one less", append(bytes.Clone(b[:i]), b[i+1:]...))
			holds(t, "one more", append(append(bytes.Clone(b[:i]), byte(rnd.Intn(256))), b[i:]...))
		}
	}
	for range 50000 {
		b := make([]byte, rnd.Intn(14))
		for i := range b {
			b[i] = byte(rnd.Intn(12))
		}
		holds(t, "any", b)
	}
}

// P15.2: messages of all kinds at random, as bytes and back.
func TestRandom(t *testing.T) {
	rnd := rand.New(rand.NewSource(151))
	for range 20000 {
		m := anyMsg(rnd)
		b, err := Encode(m)
		if !fits(m) {
			if err != api.ErrArg || len(b) > 0 {
				t.Fatalf("%+v: % x %d", m, b, err)
			}
			continue
		}
		if err != api.OK || !bytes.Equal(b, laid(m)) {
			t.Fatalf("%+v: % x %d", m, b, err)
		}
		if again, err := Decode(b); err != api.OK || again != m {
			t.Fatalf("%+v: %+v %d", m, again, err)
		}
	}
}

// P15.2, rule 4: what Encode and Decode answer is apart from what they were given, and from each other's answers; what they were given stays.
func TestApart(t *testing.T) {
	for _, c := range written() {
		b, _ := Encode(c.m)
		twin, _ := Encode(c.m)
		m, _ := Decode(b)
		if string(b) != c.want {
			t.Errorf("% x: turned by Decode", c.want)
		}
		_ = append(b, 1)
		clear(b)
		if string(twin) != c.want || m != c.m {
			t.Errorf("% x: memory is shared", c.want)
		}
	}
}
