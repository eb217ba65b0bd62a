package due

// line is the items as a heap: container/heap keeps the first one at its head.
type line []*item

func (l line) Len() int { return len(l) }

func (l line) Less(i, j int) bool { return l[i].entry.ahead(l[j].entry) }

func (l line) Swap(i, j int) {
	l[i], l[j] = l[j], l[i]
	l[i].place, l[j].place = i, j
}

func (l *line) Push(x any) {
	// The queue hands on nothing but items.
	if it, ok := x.(*item); ok {
		it.place = len(*l)
		*l = append(*l, it)
	}
}

func (l *line) Pop() any {
	last := len(*l) - 1
	it := (*l)[last]
	// Or the list's memory would keep an item that isn't due any more.
	(*l)[last] = nil
	*l = (*l)[:last]
	return it
}
