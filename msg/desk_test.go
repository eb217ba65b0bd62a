package msg

import (
	"encoding/binary"
	"math/rand"
	"strings"
	"testing"

	"dockmaster/api"
)

const kinds = 10

// plain is a message of a kind that has no more than it must, turned by a function.
func plain(kind int, turn func(*Msg)) Msg {
	m := Msg{Kind: kind, From: 1, To: 2, Tid: api.Tid{Num: 5, Node: 3}}
	if kind == Do {
		m.Op, m.Key = Get, "k"
	}
	turn(&m)
	return m
}

// had is which of its fields a message of a kind may have, as the chapter names them, in the order in which they are laid.
func had(kind int) []string {
	list := map[int]string{
		2: "Life",
		3: "Life N Op Key Val",
		4: "N Code Has Val",
		5: "Life N",
		6: "Code",
	}
	return strings.Fields(list[kind])
}

// fits tells by another hand whether a message is right: each field that its kind may have is looked at, and taken away; then none may be left.
func fits(m Msg) bool {
	node := func(n int) bool { return 0 <= n && n <= 63 }
	ok := 1 <= m.Kind && m.Kind <= 10 && node(m.From) && node(m.To) && node(m.Tid.Node) && m.Tid.Num <= 1<<40
	rest := m
	rest.From, rest.To, rest.Tid = 0, 0, api.Tid{}
	for _, field := range had(m.Kind) {
		switch field {
		case "Life":
			ok, rest.Life = ok && m.Life <= 1<<40, 0
		case "N":
			ok, rest.N = ok && 0 <= m.N && m.N <= 1<<20, 0
		case "Op":
			ok, rest.Op = ok && (m.Op == 1 || m.Op == 2 || m.Op == 3), 0
		case "Key":
			ok, rest.Key = ok && 1 <= len(m.Key) && len(m.Key) <= 24, ""
		case "Val":
			ok, rest.Val = ok && len(m.Val) <= 48 && (m.Val == "" || m.Has || m.Op == 2), ""
		case "Code":
			ok, rest.Code = ok && 0 <= m.Code && m.Code <= 17, 0
		case "Has":
			rest.Has = false
		}
	}
	return ok && rest == Msg{Kind: m.Kind}
}

// laid is a message's bytes by another hand: the library's way of laying numbers; also of one that isn't right, as far as bytes can tell it.
func laid(m Msg) []byte {
	var b []byte
	number := func(n uint64) { b = binary.AppendUvarint(b, n) }
	text := func(s string) { b = append(binary.AppendUvarint(b, uint64(len(s))), s...) }
	for _, n := range []uint64{uint64(m.Kind), uint64(m.From), uint64(m.To), m.Tid.Num, uint64(m.Tid.Node)} {
		number(n)
	}
	for _, field := range had(m.Kind) {
		switch field {
		case "Life":
			number(m.Life)
		case "N":
			number(uint64(m.N))
		case "Op":
			number(uint64(m.Op))
		case "Key":
			text(m.Key)
		case "Val":
			text(m.Val)
		case "Code":
			number(uint64(m.Code))
		case "Has":
			number(map[bool]uint64{true: 1}[m.Has])
		}
	}
	return b
}

// read is the message that bytes are, by another hand, and whether there is one: what stands there is taken without a look at it, and held against the bytes that it would have.
func read(b []byte) (Msg, bool) {
	rest := b
	number := func() uint64 {
		n, size := binary.Uvarint(rest)
		rest = rest[max(size, 0):]
		return n
	}
	text := func() string {
		n := min(number(), uint64(len(rest)))
		s := string(rest[:n])
		rest = rest[n:]
		return s
	}
	m := Msg{Kind: int(number()), From: int(number()), To: int(number())}
	m.Tid = api.Tid{Num: number(), Node: int(number())}
	for _, field := range had(m.Kind) {
		switch field {
		case "Life":
			m.Life = number()
		case "N":
			m.N = int(number())
		case "Op":
			m.Op = int(number())
		case "Key":
			m.Key = text()
		case "Val":
			m.Val = text()
		case "Code":
			m.Code = api.Errno(number())
		case "Has":
			m.Has = number() == 1
		}
	}
	if !fits(m) || string(laid(m)) != string(b) {
		return Msg{}, false
	}
	return m, true
}

// holds holds what Decode tells of bytes against what another hand reads there.
func holds(t *testing.T, name string, b []byte) {
	t.Helper()
	want, code := Msg{}, api.ErrBad
	if m, ok := read(b); ok {
		want, code = m, api.OK
	}
	if m, err := Decode(b); err != code || m != want {
		t.Errorf("%s, % x: %+v %d, want %+v %d", name, b, m, err, want, code)
	}
}

// isBad tells of bytes that Decode must refuse, beside no message.
func isBad(t *testing.T, name string, b []byte) {
	t.Helper()
	if m, err := Decode(b); err != api.ErrBad || m != (Msg{}) {
		t.Errorf("%s, % x: %+v %d", name, b, m, err)
	}
}

// anyText is a text of up to so many bytes, of any values.
func anyText(rnd *rand.Rand, most int) string {
	b := make([]byte, rnd.Intn(most+1))
	rnd.Read(b)
	return string(b)
}

// anyMsg is a message of any kind, most of them right.
func anyMsg(rnd *rand.Rand) Msg {
	m := Msg{Kind: 1 + rnd.Intn(kinds), From: rnd.Intn(64), To: rnd.Intn(64)}
	m.Tid = api.Tid{Num: uint64(1<<40) >> rnd.Intn(42), Node: rnd.Intn(64)}
	for _, field := range had(m.Kind) {
		switch field {
		case "Life":
			m.Life = uint64(1<<40) >> rnd.Intn(42)
		case "N":
			m.N = (1 << 20) >> rnd.Intn(22)
		case "Op":
			m.Op = 1 + rnd.Intn(3)
		case "Key":
			m.Key = "k" + anyText(rnd, 23)
		case "Val":
			m.Val = anyText(rnd, 48)
		case "Code":
			m.Code = api.Errno(rnd.Intn(18))
		case "Has":
			m.Has = rnd.Intn(2) == 1
		}
	}
	return m
}
