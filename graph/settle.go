package graph

// queue is what is still to be looked at: what was put first is taken first.
type queue[T any] struct{ l []T }

func (q *queue[T]) put(x T) { q.l = append(q.l, x) }

func (q *queue[T]) take() T {
	x := q.l[0]
	q.l = q.l[1:]
	return x
}

// settle looks at each of what it is handed, and of what each look puts behind that, till nothing is left.
func settle[T any](first []T, look func(x T, put func(T))) {
	q := queue[T]{first}
	for len(q.l) > 0 {
		look(q.take(), q.put)
	}
}
