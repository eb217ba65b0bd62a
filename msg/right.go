package msg

import (
	"dockmaster/api"
	"dockmaster/key"
)

const maxLife = 1 << 40 // of a store

// Right tells whether a message has what its kind has, within the limits, and nothing else.
func (m Msg) Right() bool {
	return m.Kind >= Hello && m.Kind <= Ask &&
		isNode(m.From) && isNode(m.To) && isNode(m.Tid.Node) && m.Tid.Num <= api.MaxTid &&
		m.rightLife() && m.rightN() && m.rightDeed() && m.rightVal() && m.rightCode()
}

func (m Msg) rightLife() bool {
	return m.Life == 0 || m.hasLife() && m.Life <= maxLife
}

func (m Msg) rightN() bool {
	return m.N == 0 || m.hasN() && m.N > 0 && m.N <= MaxN
}

// rightDeed looks at what is to be done, and to which key.
func (m Msg) rightDeed() bool {
	if m.Kind != Do {
		return m.Op == 0 && m.Key == ""
	}
	return m.Op >= Get && m.Op <= Drop && key.Right(m.Key) == api.OK
}

func (m Msg) rightVal() bool {
	puts := m.Kind == Do && m.Op == Put
	return (!m.Has || m.Kind == Did) &&
		(m.Val == "" || (puts || m.Has) && key.Value(m.Val) == api.OK)
}

func (m Msg) rightCode() bool {
	return m.Code == api.OK || m.hasCode() && m.Code > api.OK && m.Code <= api.ErrSession
}

// hasLife tells whether a message of this kind may have a Life.
func (m Msg) hasLife() bool { return m.Kind == Welcome || m.Kind == Do || m.Kind == Prepare }

// hasN tells whether a message of this kind may have an N.
func (m Msg) hasN() bool { return m.Kind == Do || m.Kind == Did || m.Kind == Prepare }

// hasCode tells whether a message of this kind may have a Code.
func (m Msg) hasCode() bool { return m.Kind == Did || m.Kind == Vote }

func isNode(n int) bool { return n >= 0 && n < api.MaxNodes }
