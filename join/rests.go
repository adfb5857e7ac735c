package join

import "container/heap"

// rests is a heap of rising lists that have something left, the one with the least first element on top.
type rests[T any] struct {
	lists   [][]T
	compare func(a, b T) int
}

func restsOf[T any](lists [][]T, compare func(a, b T) int) *rests[T] {
	r := &rests[T]{compare: compare}
	for _, list := range lists {
		r.add(list)
	}
	return r
}

func (r *rests[T]) add(list []T) {
	if len(list) > 0 {
		heap.Push(r, list)
	}
}

// takeAlike takes out the least element and all that are the same by compare; there must be one.
func (r *rests[T]) takeAlike() []T {
	alike := []T{r.takeLeast()}
	for r.Len() > 0 && r.compare(alike[0], r.lists[0][0]) == 0 {
		alike = append(alike, r.takeLeast())
	}
	return alike
}

func (r *rests[T]) takeLeast() T {
	top := heap.Pop(r).([]T)
	r.add(top[1:])
	return top[0]
}

// The five methods below are what container/heap asks for.

func (r *rests[T]) Len() int { return len(r.lists) }

func (r *rests[T]) Less(i, j int) bool {
	return r.compare(r.lists[i][0], r.lists[j][0]) < 0
}

func (r *rests[T]) Swap(i, j int) {
	r.lists[i], r.lists[j] = r.lists[j], r.lists[i]
}

func (r *rests[T]) Push(list any) {
	r.lists = append(r.lists, list.([]T))
}

func (r *rests[T]) Pop() any {
	last := len(r.lists) - 1
	list := r.lists[last]
	r.lists = r.lists[:last]
	return list
}
