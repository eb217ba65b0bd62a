package due

import (
	"math"
	"math/rand"
	"slices"
	"testing"

	"dockmaster/api"
)

func tid(num uint64, node int) api.Tid { return api.Tid{Num: num, Node: node} }

// drain takes all that is due by a time.
func drain(q *Queue, now int) []Entry {
	var out []Entry
	for range 1000 {
		e, ok := q.Next(now)
		if !ok {
			return out
		}
		out = append(out, e)
	}
	return out
}

func same(t *testing.T, got, want []Entry) {
	t.Helper()
	if !slices.Equal(got, want) {
		t.Fatalf("got %v, want %v", got, want)
	}
}

// P3.1: in a new queue nothing is due.
func TestNewIsEmpty(t *testing.T) {
	q := New()
	if q == nil || q.Len() != 0 || q.Drop(1, tid(1, 1)) {
		t.Error("something is due in a new queue")
	}
	if at, ok := q.When(1, tid(1, 1)); at != 0 || ok {
		t.Error("When", at, ok)
	}
	if e, ok := q.Next(math.MaxInt); e != (Entry{}) || ok {
		t.Error("Next", e, ok)
	}
}

// P3.1: a thing is known by its kind, its transaction's number and its node, all of them.
func TestThingsAreKnownByAll(t *testing.T) {
	q := New()
	things := []Entry{
		{At: 1, Kind: 1, Tid: tid(1, 1)},
		{At: 2, Kind: 2, Tid: tid(1, 1)},
		{At: 3, Kind: 1, Tid: tid(2, 1)},
		{At: 4, Kind: 1, Tid: tid(1, 2)},
	}
	for i, e := range things {
		q.Set(e.Kind, e.Tid, e.At)
		if q.Len() != i+1 {
			t.Error("Len", i, q.Len())
		}
	}
	for i, e := range things {
		if at, ok := q.When(e.Kind, e.Tid); at != e.At || !ok {
			t.Error("When", i, at, ok)
		}
	}
	if !q.Drop(1, tid(2, 1)) || q.Len() != 3 {
		t.Error("Drop", q.Len())
	}
	same(t, drain(q, 9), []Entry{things[0], things[1], things[3]})
}

// P3.1: what is set again is due at the new time alone, be it ahead, behind or the same.
func TestSetAgain(t *testing.T) {
	for _, at := range []int{1, 5, 9} {
		q := New()
		q.Set(0, tid(7, 0), 4)
		q.Set(0, tid(1, 0), 5)
		q.Set(0, tid(8, 0), 6)
		q.Set(0, tid(1, 0), at)
		if when, ok := q.When(0, tid(1, 0)); when != at || !ok || q.Len() != 3 {
			t.Error("When", at, when, ok, q.Len())
		}
		want := []Entry{{4, 0, tid(7, 0)}, {at, 0, tid(1, 0)}, {6, 0, tid(8, 0)}}
		slices.SortFunc(want, func(a, b Entry) int { return a.At - b.At })
		same(t, drain(q, 10), want)
		if q.Len() != 0 {
			t.Error("it was due twice", at)
		}
	}
}

// P3.1: what is dropped isn't due; Drop tells whether it was.
func TestDrop(t *testing.T) {
	q := New()
	q.Set(3, tid(4, 5), 6)
	q.Set(3, tid(5, 5), 7)
	if q.Drop(3, tid(4, 6)) || q.Drop(2, tid(4, 5)) || q.Len() != 2 {
		t.Error("something else was dropped")
	}
	if !q.Drop(3, tid(4, 5)) || q.Drop(3, tid(4, 5)) || q.Len() != 1 {
		t.Error("Drop", q.Len())
	}
	if at, ok := q.When(3, tid(4, 5)); at != 0 || ok {
		t.Error("When", at, ok)
	}
	same(t, drain(q, 9), []Entry{{7, 3, tid(5, 5)}})
	q.Set(3, tid(4, 5), 8)
	if at, ok := q.When(3, tid(4, 5)); at != 8 || !ok || q.Len() != 1 {
		t.Error("set behind a Drop", at, ok, q.Len())
	}
}

// P3.1: what is due at time 0 is told apart from what isn't due.
func TestWhenAtZero(t *testing.T) {
	q := New()
	q.Set(0, api.Tid{}, 0)
	if at, ok := q.When(0, api.Tid{}); at != 0 || !ok {
		t.Error("When", at, ok)
	}
	if e, ok := q.Next(0); e != (Entry{}) || !ok || q.Len() != 0 {
		t.Error("Next", e, ok)
	}
}

// P3.1: of a nil Queue nothing is due, and stays so.
func TestNilQueue(t *testing.T) {
	var q *Queue
	q.Set(1, tid(1, 1), 1)
	if at, ok := q.When(1, tid(1, 1)); at != 0 || ok || q.Len() != 0 || q.Drop(1, tid(1, 1)) {
		t.Error("a nil Queue has something")
	}
	if e, ok := q.Next(9); e != (Entry{}) || ok {
		t.Error("Next", e, ok)
	}
}

// P3.1: a Queue that New didn't make is one in which nothing is due.
func TestZeroQueue(t *testing.T) {
	var q Queue
	if _, ok := q.Next(9); ok || q.Len() != 0 || q.Drop(1, tid(1, 1)) {
		t.Error("a zero Queue has something")
	}
	q.Set(1, tid(1, 1), 2)
	if at, ok := q.When(1, tid(1, 1)); at != 2 || !ok || q.Len() != 1 {
		t.Error("When", at, ok)
	}
}

// P3.2: what is due behind now stays; what is due at now is told.
func TestNextByNow(t *testing.T) {
	q := New()
	q.Set(0, tid(1, 0), 5)
	q.Set(0, tid(2, 0), 3)
	for _, now := range []int{math.MinInt, -1, 0, 2} {
		if e, ok := q.Next(now); e != (Entry{}) || ok || q.Len() != 2 {
			t.Error("Next", now, e, ok)
		}
	}
	if e, ok := q.Next(4); e != (Entry{3, 0, tid(2, 0)}) || !ok || q.Len() != 1 {
		t.Error("Next(4)", e, ok)
	}
	if e, ok := q.Next(4); e != (Entry{}) || ok || q.Len() != 1 {
		t.Error("Next(4) again", e, ok)
	}
	if e, ok := q.Next(5); e != (Entry{5, 0, tid(1, 0)}) || !ok || q.Len() != 0 {
		t.Error("Next(5)", e, ok)
	}
	if at, ok := q.When(0, tid(1, 0)); at != 0 || ok || q.Drop(0, tid(1, 0)) {
		t.Error("it is due still", at, ok)
	}
}

// P3.2: by time, then by kind, then by age: the lesser number, then the lesser node.
func TestNextOrder(t *testing.T) {
	want := []Entry{
		{math.MinInt, 9, tid(9, 8)},
		{-1, 9, tid(9, 9)},
		{0, -3, tid(9, 9)},
		{0, 2, tid(9, 9)},
		{0, 3, tid(1, 9)},
		{0, 3, tid(2, -5)},
		{0, 3, tid(2, 0)},
		{0, 3, tid(2, 9)},
		{0, 3, tid(math.MaxUint64, 0)},
		{1, 0, tid(0, 0)},
		{math.MaxInt, 0, tid(0, -1)},
	}
	r := rand.New(rand.NewSource(1))
	for range 50 {
		q := New()
		for _, i := range r.Perm(len(want)) {
			q.Set(want[i].Kind, want[i].Tid, want[i].At)
		}
		same(t, drain(q, math.MaxInt), want)
	}
}

// plain is the same as a Queue by a list that is searched.
type plain []Entry

func (p plain) find(k Kind, t api.Tid) int {
	return slices.IndexFunc(p, func(e Entry) bool { return e.Kind == k && e.Tid == t })
}

func (p *plain) drop(k Kind, t api.Tid) bool {
	i := p.find(k, t)
	if i >= 0 {
		*p = slices.Delete(*p, i, i+1)
	}
	return i >= 0
}

func (p *plain) next(now int) (Entry, bool) {
	best := -1
	for i, e := range *p {
		if e.At > now {
			continue
		}
		if best < 0 || less(e, (*p)[best]) {
			best = i
		}
	}
	if best < 0 {
		return Entry{}, false
	}
	e := (*p)[best]
	p.drop(e.Kind, e.Tid)
	return e, true
}

func less(a, b Entry) bool {
	if a.At != b.At {
		return a.At < b.At
	}
	if a.Kind != b.Kind {
		return a.Kind < b.Kind
	}
	return a.Tid.Elder(b.Tid)
}

// P3.1, P3.2: whatever is done, in whatever order, a plain list answers the same.
func TestAgainstPlainList(t *testing.T) {
	r := rand.New(rand.NewSource(2))
	for range 200 {
		q, p := New(), plain{}
		for range 200 {
			k, id, at := Kind(r.Intn(3)), tid(uint64(r.Intn(4)), r.Intn(3)), r.Intn(10)-2
			switch r.Intn(5) {
			case 0, 1, 2:
				q.Set(k, id, at)
				p.drop(k, id)
				p = append(p, Entry{at, k, id})
			case 3:
				if got, want := q.Drop(k, id), p.drop(k, id); got != want {
					t.Fatal("Drop", got, want)
				}
			case 4:
				got, ok := q.Next(at)
				want, has := p.next(at)
				if got != want || ok != has {
					t.Fatal("Next", got, ok, want, has)
				}
			}
			checkWhens(t, q, p)
		}
	}
}

func checkWhens(t *testing.T, q *Queue, p plain) {
	t.Helper()
	if q.Len() != len(p) {
		t.Fatal("Len", q.Len(), len(p))
	}
	for _, e := range p {
		if at, ok := q.When(e.Kind, e.Tid); at != e.At || !ok {
			t.Fatal("When", e, at, ok)
		}
	}
}

// P3.1: what isn't due any more isn't kept.
func TestNothingIsKept(t *testing.T) {
	q := New()
	for i := range 100 {
		q.Set(0, tid(uint64(i), 0), i)
	}
	for i := range 50 {
		q.Drop(0, tid(uint64(2*i), 0))
	}
	drain(q, 200)
	if len(q.items) != 0 || len(q.line) != 0 {
		t.Error("kept", len(q.items), len(q.line))
	}
	for i, it := range q.line[:cap(q.line)] {
		if it != nil {
			t.Error("the line's memory keeps an item", i)
		}
	}
}
