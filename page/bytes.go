package page

import (
	"math"

	"dockmaster/api"
	"dockmaster/num"
)

// Encode is a page's bytes, with the number of the entry by which it was turned last.
func Encode(p Page, lsn uint64) ([]byte, api.Errno) {
	if !p.Right() {
		return nil, api.ErrArg
	}
	b := num.Put(num.Put(nil, uint64(p.Kind)), lsn)
	switch p.Kind {
	case Leaf:
		return layLeaf(b, p), api.OK
	case Inner:
		return layInner(b, p), api.OK
	case Meta:
		return layNumbers(b, []int{p.Root, p.Next, p.Size, p.Idle}), api.OK
	}
	return layNumbers(b, []int{p.Next}), api.OK
}

func layLeaf(b []byte, p Page) []byte {
	b = num.Put(b, uint64(len(p.Keys)))
	for i, k := range p.Keys {
		b = num.Text(num.Text(b, k), p.Vals[i])
	}
	return b
}

func layInner(b []byte, p Page) []byte {
	b = num.Put(b, uint64(len(p.Kids)))
	for i, kid := range p.Kids {
		if i > 0 {
			b = num.Text(b, p.Keys[i-1])
		}
		b = num.Put(b, uint64(kid))
	}
	return b
}

func layNumbers(b []byte, ns []int) []byte {
	for _, n := range ns {
		b = num.Put(b, uint64(n))
	}
	return b
}

// Decode is the page with which bytes begin, behind which noughts alone stand, and its entry's number.
func Decode(b []byte) (Page, uint64, api.Errno) {
	r := num.Read(b)
	p := Page{Kind: int(r.Num(Free))}
	lsn := r.Num(math.MaxInt64)
	switch p.Kind {
	case Leaf:
		p.readLeaf(r)
	case Inner:
		p.readInner(r)
	case Meta:
		p.Root, p.Next, p.Size, p.Idle = readPage(r), readPage(r), int(r.Num(MaxPage)), int(r.Num(MaxPage))
	case Free:
		p.Next = readPage(r)
	}
	if r.Err() != api.OK || !p.Right() || !noughts(b[len(b)-r.Left():]) {
		return Page{}, 0, api.ErrBad
	}
	return p, lsn, api.OK
}

func (p *Page) readLeaf(r *num.Reader) {
	for range r.Num(MaxLeaf) {
		p.Keys = append(p.Keys, r.Text(api.MaxKey))
		p.Vals = append(p.Vals, r.Text(api.MaxVal))
	}
}

func (p *Page) readInner(r *num.Reader) {
	for i := range r.Num(MaxKids) {
		if i > 0 {
			p.Keys = append(p.Keys, r.Text(api.MaxKey))
		}
		p.Kids = append(p.Kids, readPage(r))
	}
}

func readPage(r *num.Reader) int {
	return int(r.Num(MaxPage - 1))
}

func noughts(b []byte) bool {
	for _, c := range b {
		if c != 0 {
			return false
		}
	}
	return true
}
