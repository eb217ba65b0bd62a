package net

import (
	"math"
	"strings"
	"testing"

	"dockmaster/api"
)

// of is a net with these letters on their way, to the nodes 0, 1, 2 and so on.
func of(t *testing.T, texts ...string) *Net {
	t.Helper()
	n := &Net{}
	for to, s := range texts {
		if err := n.Send(to, []byte(s)); err != api.OK {
			t.Fatal(s, err)
		}
	}
	return n
}

// full is a net with so many letters on their way, all to node 3 but the first.
func full(t *testing.T, count int) *Net {
	t.Helper()
	n := of(t, "first")
	for range count - 1 {
		if err := n.Send(3, []byte("x")); err != api.OK {
			t.Fatal(n.Len(), err)
		}
	}
	return n
}

// toldLetter is a letter as text: the node's letter, from a on, and its bytes.
func toldLetter(l Letter) string {
	return string(rune('a'+l.To)) + ":" + string(l.B)
}

// told is all letters on their way, in order, as text.
func told(n *Net) string {
	var out []string
	for at := range n.Len() {
		l, ok := n.At(at)
		if !ok {
			return "no letter"
		}
		out = append(out, toldLetter(l))
	}
	return strings.Join(out, " ")
}

// stands holds against a text what is on its way, and that there is nothing else.
func stands(t *testing.T, n *Net, want string) {
	t.Helper()
	if got := told(n); got != want {
		t.Errorf("on their way: %q, want %q", got, want)
	}
	for _, at := range []int{math.MinInt, -1, n.Len(), n.Len() + 1, math.MaxInt} {
		none(t, n, at)
	}
}

// none holds that there is no letter in a place, whatever is asked for, and that nothing comes of asking.
func none(t *testing.T, n *Net, at int) {
	t.Helper()
	count := n.Len()
	if l, ok := n.At(at); ok || l.To != 0 || len(l.B) > 0 {
		t.Errorf("At(%d): %v %v", at, l, ok)
	}
	if l, ok := n.Take(at); ok || l.To != 0 || len(l.B) > 0 {
		t.Errorf("Take(%d): %v %v", at, l, ok)
	}
	if err := n.Twice(at); err != api.ErrNone {
		t.Errorf("Twice(%d): %d", at, err)
	}
	if err := n.Spoil(at, 0, 1); err != api.ErrNone {
		t.Errorf("Spoil(%d): %d", at, err)
	}
	if n.Len() != count {
		t.Errorf("%d letters behind asking for %d, ahead of it %d", n.Len(), at, count)
	}
}

// takes takes the letter in a place, and holds it against a text.
func takes(t *testing.T, n *Net, at int, want string) {
	t.Helper()
	if l, ok := n.Take(at); !ok || toldLetter(l) != want {
		t.Errorf("Take(%d): %v %v, want %s", at, l, ok, want)
	}
}

// P16.1: the limits, as the chapter says them.
func TestLimits(t *testing.T) {
	if MaxAway != 2000 || MaxBytes != 200 {
		t.Error(MaxAway, MaxBytes)
	}
}

// P16.1: on a zero Net nothing is on its way.
func TestZero(t *testing.T) {
	n := &Net{}
	if n.Len() != 0 {
		t.Error(n.Len())
	}
	stands(t, n, "")
}

// P16.1: of a nil Net: nothing, ErrArg of Send, also of what could be sent.
func TestNil(t *testing.T) {
	var n *Net
	for _, to := range []int{-1, 0, 1, 64} {
		if err := n.Send(to, []byte("a")); err != api.ErrArg {
			t.Error(to, err)
		}
	}
	if err := n.Send(0, nil); err != api.ErrArg {
		t.Error(err)
	}
	none(t, n, 0)
	stands(t, n, "")
}

// P16.1: the chapter's example.
func TestExample(t *testing.T) {
	n := &Net{}
	n.Send(1, []byte("a"))
	n.Send(2, []byte("b"))
	takes(t, n, 0, "b:a")
	stands(t, n, "c:b")
}

// P16.1: to which nodes a letter may go.
func TestSendTo(t *testing.T) {
	n := &Net{}
	for _, to := range []int{math.MinInt, -1, 64, 65, math.MaxInt} {
		if err := n.Send(to, []byte("a")); err != api.ErrArg || n.Len() != 0 {
			t.Error(to, err, n.Len())
		}
	}
	for to := range 64 {
		if err := n.Send(to, []byte("a")); err != api.OK {
			t.Error(to, err)
		}
		if l, ok := n.At(to); !ok || l.To != to || string(l.B) != "a" || n.Len() != to+1 {
			t.Error(to, l, ok, n.Len())
		}
	}
}

// P16.1: how many bytes a letter may have; none are as good as any.
func TestSendBytes(t *testing.T) {
	n := &Net{}
	for i, size := range []int{0, 1, 199, 200} {
		s := strings.Repeat("x", size)
		if err := n.Send(1, []byte(s)); err != api.OK {
			t.Error(size, err)
		}
		if l, ok := n.At(i); !ok || l.To != 1 || string(l.B) != s {
			t.Error(size, l, ok)
		}
	}
	for _, size := range []int{201, 202, 5000} {
		if err := n.Send(1, make([]byte, size)); err != api.ErrArg || n.Len() != 4 {
			t.Error(size, err, n.Len())
		}
	}
	if err := n.Send(2, nil); err != api.OK {
		t.Error(err)
	}
	if l, ok := n.Take(4); !ok || l.To != 2 || len(l.B) != 0 {
		t.Error(l, ok)
	}
	if err := n.Send(1, []byte("\x00\xff")); err != api.OK {
		t.Error(err)
	}
	takes(t, n, 4, "b:\x00\xff")
}

// P16.1: how many letters may be on their way; ErrArg is named ahead of ErrMany, and room is had again by a Take.
func TestMany(t *testing.T) {
	n := full(t, 2000)
	refuses := func() {
		t.Helper()
		for _, err := range []api.Errno{n.Send(1, []byte("b")), n.Send(0, nil), n.Twice(0), n.Twice(1999)} {
			if err != api.ErrMany || n.Len() != 2000 {
				t.Error(err, n.Len())
			}
		}
		for _, err := range []api.Errno{n.Send(-1, nil), n.Send(64, nil), n.Send(1, make([]byte, 201))} {
			if err != api.ErrArg || n.Len() != 2000 {
				t.Error(err, n.Len())
			}
		}
		none(t, n, -1)
		none(t, n, 2000)
	}
	refuses()
	takes(t, n, 1999, "d:x")
	if err := n.Twice(0); err != api.OK {
		t.Error(err)
	}
	refuses()
	takes(t, n, 1999, "a:first")
	takes(t, n, 0, "a:first")
	for _, err := range []api.Errno{n.Send(1, []byte("b")), n.Send(2, []byte("c"))} {
		if err != api.OK {
			t.Error(err)
		}
	}
	refuses()
	takes(t, n, 1998, "b:b")
	takes(t, n, 1998, "c:c")
}

// P16.1: At tells each letter, as often as it is asked; Take at each place leaves the others in their order.
func TestOrder(t *testing.T) {
	all := []string{"a:0", "b:1", "c:2", "d:3"}
	for at, want := range all {
		n := of(t, "0", "1", "2", "3")
		for range 2 {
			stands(t, n, "a:0 b:1 c:2 d:3")
		}
		takes(t, n, at, want)
		left := append(append([]string{}, all[:at]...), all[at+1:]...)
		stands(t, n, strings.Join(left, " "))
		n.Send(4, []byte("4"))
		stands(t, n, strings.Join(append(left, "e:4"), " "))
		for _, s := range append(left, "e:4") {
			takes(t, n, 0, s)
		}
		stands(t, n, "")
		n.Send(5, []byte("5"))
		stands(t, n, "f:5")
	}
}

// P16.1: Twice of each place: the same once more, behind all; the first stays where it is.
func TestTwice(t *testing.T) {
	for at, want := range []string{"a:", "b:1", "c:2"} {
		n := of(t, "", "1", "2")
		for _, behind := range []string{" " + want, " " + want + " " + want} {
			if err := n.Twice(at); err != api.OK {
				t.Error(at, err)
			}
			stands(t, n, "a: b:1 c:2"+behind)
		}
	}
}

// P16.1: letters that Twice made are apart: one that is spoilt, or taken and turned, leaves the others as they were.
func TestTwiceApart(t *testing.T) {
	for at, want := range []string{"a:Xb a:ab a:ab", "a:ab a:Xb a:ab", "a:ab a:ab a:Xb"} {
		n := of(t, "ab")
		n.Twice(0)
		n.Twice(1)
		if err := n.Spoil(at, 0, 'a'^'X'); err != api.OK {
			t.Error(err)
		}
		stands(t, n, want)
		l, _ := n.Take(at)
		clear(l.B)
		stands(t, n, "a:ab a:ab")
	}
}

// P16.1: Spoil lays bits over one byte of one letter, by exclusive or.
func TestSpoil(t *testing.T) {
	n := of(t, "ab", "abc", "ab")
	for _, c := range []struct {
		at, i int
		bits  byte
		want  string
	}{
		{1, 0, 3, "a:ab b:bbc c:ab"},
		{1, 2, 'c' ^ 'Z', "a:ab b:bbZ c:ab"},
		{1, 0, 3, "a:ab b:abZ c:ab"},
		{0, 1, 0x80, "a:a\xe2 b:abZ c:ab"},
		{0, 1, 0xff, "a:a\x1d b:abZ c:ab"},
		{2, 1, 0, "a:a\x1d b:abZ c:ab"},
		{2, 0, 'a', "a:a\x1d b:abZ c:\x00b"},
	} {
		if err := n.Spoil(c.at, c.i, c.bits); err != api.OK {
			t.Error(c, err)
		}
		stands(t, n, c.want)
	}
}

// P16.1: each value of bits, laid over each byte's place twice: the letter is as it was.
func TestSpoilTwice(t *testing.T) {
	n := of(t, "q", "\x00\x5a\xff")
	for i, was := range []byte("\x00\x5a\xff") {
		for bits := range 256 {
			n.Spoil(1, i, byte(bits))
			if l, _ := n.At(1); l.B[i] != was^byte(bits) {
				t.Error(i, bits, l)
			}
			n.Spoil(1, i, byte(bits))
			if s := told(n); s != "a:q b:\x00\x5a\xff" {
				t.Errorf("%d, %d: %q", i, bits, s)
			}
		}
	}
}

// P16.1: bytes that aren't there, of letters of some bytes and of none.
func TestSpoilNone(t *testing.T) {
	n := of(t, "ab", "", strings.Repeat("x", 200))
	was := told(n)
	for at, size := range []int{2, 0, 200} {
		for _, i := range []int{math.MinInt, -1, size, size + 1, math.MaxInt} {
			for _, bits := range []byte{0, 1, 255} {
				if err := n.Spoil(at, i, bits); err != api.ErrNone {
					t.Error(at, i, bits, err)
				}
			}
		}
	}
	for _, at := range []int{-1, 3} {
		if err := n.Spoil(at, 0, 0); err != api.ErrNone {
			t.Error(at, err)
		}
	}
	stands(t, n, was)
	if err := n.Spoil(2, 199, 'x'^'y'); err != api.OK {
		t.Error(err)
	}
	stands(t, n, was[:len(was)-1]+"y")
}

// P16.1, rule 4: what is handed in isn't turned or kept, and what is told is new memory.
func TestApart(t *testing.T) {
	whole := []byte("ab, and more")
	b := whole[:2]
	n := &Net{}
	n.Send(1, b)
	n.Send(1, b)
	n.Spoil(0, 0, 3)
	if string(whole) != "ab, and more" {
		t.Errorf("turned: %q", whole)
	}
	clear(whole)
	stands(t, n, "b:bb b:ab")
	l, _ := n.At(0)
	_ = append(l.B, 1, 2, 3)
	clear(l.B)
	stands(t, n, "b:bb b:ab")
	l, _ = n.At(1)
	n.Spoil(1, 0, 3)
	if toldLetter(l) != "b:ab" {
		t.Error("told, and turned then", l)
	}
	l, _ = n.Take(1)
	n.Send(2, []byte("cd"))
	n.Spoil(0, 1, 255)
	n.Spoil(1, 1, 255)
	if toldLetter(l) != "b:bb" {
		t.Error("taken, and turned then", l)
	}
	_ = append(l.B, 1, 2, 3)
	clear(l.B)
	stands(t, n, "b:b\x9d c:c\x9b")
}
