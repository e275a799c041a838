// Package stack: what was laid down last is taken first.
package stack

// Stack is empty at first; no call of it panics.
type Stack[T any] struct {
	items []T
}

// Len is how many lie on the stack.
func (s *Stack[T]) Len() int { return len(s.items) }

// Push lays one on top.
func (s *Stack[T]) Push(item T) { s.items = append(s.items, item) }

// At is the one that has i below it; false, if there is none.
func (s *Stack[T]) At(i int) (T, bool) {
	if i < 0 || i >= len(s.items) {
		var nothing T
		return nothing, false
	}
	return s.items[i], true
}

// Top is the last one that was laid down; the zero value, if there is none.
func (s *Stack[T]) Top() T {
	top, _ := s.At(len(s.items) - 1)
	return top
}

// Pop takes the top away; false, if there is none.
func (s *Stack[T]) Pop() (T, bool) {
	top, ok := s.At(len(s.items) - 1)
	if ok {
		s.Cut(len(s.items) - 1)
	}
	return top, ok
}

// Cut takes from the top until no more than n are left.
func (s *Stack[T]) Cut(n int) {
	if n < 0 {
		n = 0
	}
	if n >= len(s.items) {
		return
	}
	// What is gone must not be kept alive by the memory that the stack goes on using.
	clear(s.items[n:])
	s.items = s.items[:n]
}
