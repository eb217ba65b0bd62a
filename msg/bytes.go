package msg

import (
	"dockmaster/api"
	"dockmaster/num"
)

// Encode is a message's bytes.
func Encode(m Msg) ([]byte, api.Errno) {
	if !m.Right() {
		return nil, api.ErrArg
	}
	b := small(small(small(nil, m.Kind), m.From), m.To)
	b = num.Tid(b, m.Tid)
	if m.hasLife() {
		b = num.Put(b, m.Life)
	}
	if m.hasN() {
		b = small(b, m.N)
	}
	if m.Kind == Do {
		b = num.Text(num.Text(small(b, m.Op), m.Key), m.Val)
	}
	if m.hasCode() {
		b = small(b, int(m.Code))
	}
	if m.Kind == Did {
		b = num.Text(flag(b, m.Has), m.Val)
	}
	return b, api.OK
}

func small(b []byte, n int) []byte { return num.Put(b, uint64(n)) }

func flag(b []byte, is bool) []byte {
	if is {
		return num.Put(b, 1)
	}
	return num.Put(b, 0)
}

// Decode is the message that bytes are.
func Decode(b []byte) (Msg, api.Errno) {
	in := num.Read(b)
	m := Msg{Kind: int(in.Num(Ask)), From: readNode(in), To: readNode(in), Tid: in.Tid()}
	m.read(in)
	// A number, and so a text, can be laid in one way alone: what was read to its end, and is right, has no other bytes than these.
	if in.End() != api.OK || !m.Right() {
		return Msg{}, api.ErrBad
	}
	return m, api.OK
}

// read takes what a message's kind has, behind the Tid.
func (m *Msg) read(in *num.Reader) {
	if m.hasLife() {
		m.Life = in.Num(maxLife)
	}
	if m.hasN() {
		m.N = int(in.Num(MaxN))
	}
	if m.Kind == Do {
		m.Op, m.Key, m.Val = int(in.Num(Drop)), in.Text(api.MaxKey), in.Text(api.MaxVal)
	}
	if m.hasCode() {
		m.Code = api.Errno(in.Num(uint64(api.ErrSession)))
	}
	if m.Kind == Did {
		m.Has, m.Val = in.Num(1) == 1, in.Text(api.MaxVal)
	}
}

func readNode(in *num.Reader) int { return int(in.Num(api.MaxNodes - 1)) }
