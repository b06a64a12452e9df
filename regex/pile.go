package regex

// pile keeps what is pushed; what was pushed last is popped first.
type pile[T any] struct {
	items []T
}

func (p *pile[T]) push(x T) {
	p.items = append(p.items, x)
}

// pop returns what was pushed last; false if there is nothing left.
func (p *pile[T]) pop() (T, bool) {
	var x T
	last := len(p.items) - 1
	if last < 0 {
		return x, false
	}
	x, p.items = p.items[last], p.items[:last]
	return x, true
}

func (p *pile[T]) size() int {
	return len(p.items)
}
