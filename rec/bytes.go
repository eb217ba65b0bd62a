package rec

import (
	"bytes"
	"slices"

	"dockmaster/api"
	"dockmaster/num"
	"dockmaster/page"
	"dockmaster/space"
	"dockmaster/wal"
)

// imageLSN is the number with which a page's image is laid: that of its entry isn't known yet when the record is made.
const imageLSN = 0

// Encode is a record's bytes.
func Encode(r Rec) ([]byte, api.Errno) {
	if !r.Right() {
		return nil, api.ErrArg
	}
	b := slices.Concat(number(uint64(r.Kind)), num.Tid(nil, r.Tid), r.body())
	if len(b) > wal.Most {
		return nil, api.ErrMany
	}
	return b, api.OK
}

// body is the bytes of what a record's kind has, beside the Tid.
func (r Rec) body() []byte {
	switch r.Kind {
	case Update:
		return slices.Concat(text(r.Key), flag(r.Was), text(r.Old), r.turn())
	case Undo:
		return r.turn()
	case Prepare:
		return all(r.Reads, text)
	case Decide:
		return all(r.Nodes, small)
	case Check:
		return slices.Concat(all(r.Opens, Open.laid), all(r.Dones, Done.laid))
	}
	return nil
}

func (r Rec) turn() []byte {
	return slices.Concat(number(r.Prev), all(r.Pages, change))
}

func change(c space.Change) []byte {
	image, _ := page.Encode(c.P, imageLSN)
	return slices.Concat(small(c.N), text(string(image)))
}

func (o Open) laid() []byte {
	return slices.Concat(num.Tid(nil, o.Tid), number(o.Last), number(o.First), small(o.Count), flag(o.Ready), all(o.Reads, text))
}

func (d Done) laid() []byte {
	return slices.Concat(num.Tid(nil, d.Tid), all(d.Nodes, small))
}

// all is the bytes of a list: how many there are, and these.
func all[T any](list []T, one func(T) []byte) []byte {
	b := small(len(list))
	for _, x := range list {
		b = append(b, one(x)...)
	}
	return b
}

func number(n uint64) []byte { return num.Put(nil, n) }

func small(n int) []byte { return number(uint64(n)) }

func text(s string) []byte { return num.Text(nil, s) }

func flag(is bool) []byte {
	if is {
		return number(1)
	}
	return number(0)
}

// Decode is the record that bytes are.
func Decode(b []byte) (Rec, api.Errno) {
	in := num.Read(b)
	r := Rec{Kind: int(in.Num(Check)), Tid: in.Tid()}
	r.read(in)
	// What can't be read is left at its zero value: whatever is wrong with the bytes, they aren't those of what was read then.
	again, err := Encode(r)
	if err != api.OK || !bytes.Equal(again, b) {
		return Rec{}, api.ErrBad
	}
	return r, api.OK
}

func (r *Rec) read(in *num.Reader) {
	switch r.Kind {
	case Update:
		r.Key, r.Was, r.Old = in.Text(api.MaxKey), readFlag(in), in.Text(api.MaxVal)
		r.readTurn(in)
	case Undo:
		r.readTurn(in)
	case Prepare:
		r.Reads = readReads(in)
	case Decide:
		r.Nodes = readNodes(in)
	case Check:
		r.Opens, r.Dones = readAll(in, MaxOpen, readOpen), readAll(in, MaxOpen, readDone)
	}
}

func (r *Rec) readTurn(in *num.Reader) {
	r.Prev, r.Pages = in.Num(maxNumber), readAll(in, MaxPages, readChange)
}

func readChange(in *num.Reader) space.Change {
	n := in.Num(page.MaxPage - 1)
	p, _, _ := page.Decode([]byte(in.Text(api.Sector)))
	return space.Change{N: int(n), P: p}
}

func readOpen(in *num.Reader) Open {
	return Open{
		Tid:   in.Tid(),
		Last:  in.Num(maxNumber),
		First: in.Num(maxNumber),
		Count: int(in.Num(maxCount)),
		Ready: readFlag(in),
		Reads: readReads(in),
	}
}

func readDone(in *num.Reader) Done {
	return Done{Tid: in.Tid(), Nodes: readNodes(in)}
}

func readReads(in *num.Reader) []string {
	return readAll(in, MaxReads, func(in *num.Reader) string { return in.Text(api.MaxKey) })
}

func readNodes(in *num.Reader) []int {
	return readAll(in, api.MaxNodes, func(in *num.Reader) int { return int(in.Num(api.MaxNodes - 1)) })
}

func readFlag(in *num.Reader) bool { return in.Num(1) == 1 }

func readAll[T any](in *num.Reader, most uint64, one func(*num.Reader) T) []T {
	var list []T
	for range in.Num(most) {
		list = append(list, one(in))
	}
	return list
}
