package wait

import "iter"

// item is one thing of a queue. It has its neighbours, so that it can leave at once from wherever it stands.
type item[T any] struct {
	value         T
	ahead, behind *item[T]
}

// queue is things in the order in which they came; nil is one of none.
type queue[T any] struct {
	first, last *item[T]
	n           int
}

// push puts a thing behind all that are there.
func (q *queue[T]) push(value T) *item[T] {
	i := &item[T]{value: value, ahead: q.last}
	if q.last == nil {
		q.first = i
	} else {
		q.last.behind = i
	}
	q.last = i
	q.n++
	return i
}

// cut takes out an item of the queue.
func (q *queue[T]) cut(i *item[T]) {
	if i.ahead == nil {
		q.first = i.behind
	} else {
		i.ahead.behind = i.behind
	}
	if i.behind == nil {
		q.last = i.ahead
	} else {
		i.behind.ahead = i.ahead
	}
	q.n--
}

// size is how many things there are.
func (q *queue[T]) size() int {
	if q == nil {
		return 0
	}
	return q.n
}

// all goes through the things, the first one first.
func (q *queue[T]) all() iter.Seq[T] {
	return func(yield func(T) bool) {
		if q == nil {
			return
		}
		for i := q.first; i != nil; i = i.behind {
			if !yield(i.value) {
				return
			}
		}
	}
}

// queues is a queue for each key that has one. None of them is empty: else places where nobody waits any more would be kept for good.
type queues[K comparable, T any] map[K]*queue[T]

// push puts a thing behind all that are there for the key.
func (m queues[K, T]) push(key K, value T) *item[T] {
	q := m[key]
	if q == nil {
		q = &queue[T]{}
		m[key] = q
	}
	return q.push(value)
}

// cut takes out an item of the key's queue.
func (m queues[K, T]) cut(key K, i *item[T]) {
	q := m[key]
	q.cut(i)
	if q.size() == 0 {
		delete(m, key)
	}
}
