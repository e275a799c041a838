package stack

import "testing"

func TestPushAndPop(t *testing.T) {
	var s Stack[int]
	for i := range 3 {
		s.Push(i)
	}
	if s.Len() != 3 || s.Top() != 2 {
		t.Fatalf("three lie there: %d, on top %d", s.Len(), s.Top())
	}
	for want := 2; want >= 0; want-- {
		if got, ok := s.Pop(); !ok || got != want {
			t.Errorf("Pop = %d, %v, want %d", got, ok, want)
		}
	}
}

func TestEmpty(t *testing.T) {
	var s Stack[string]
	if top := s.Top(); top != "" {
		t.Errorf("Top = %q", top)
	}
	if got, ok := s.Pop(); ok || got != "" {
		t.Errorf("Pop = %q, %v", got, ok)
	}
	if s.Len() != 0 {
		t.Errorf("Len = %d", s.Len())
	}
}

func TestAt(t *testing.T) {
	var s Stack[int]
	s.Push(7)
	s.Push(8)
	for _, c := range []struct {
		i, want int
		ok      bool
	}{{-1, 0, false}, {0, 7, true}, {1, 8, true}, {2, 0, false}} {
		if got, ok := s.At(c.i); got != c.want || ok != c.ok {
			t.Errorf("At(%d) = %d, %v", c.i, got, ok)
		}
	}
}

func TestCut(t *testing.T) {
	for _, c := range []struct{ n, left int }{{-1, 0}, {0, 0}, {2, 2}, {4, 4}, {9, 4}} {
		var s Stack[int]
		for i := range 4 {
			s.Push(i + 1)
		}
		s.Cut(c.n)
		if s.Len() != c.left || s.Top() != c.left {
			t.Errorf("Cut(%d) leaves %d with %d on top", c.n, s.Len(), s.Top())
		}
	}
}

func TestCutClears(t *testing.T) {
	var s Stack[*int]
	s.Push(new(int))
	s.Push(new(int))
	all := s.items
	s.Cut(1)
	if all[0] == nil || all[1] != nil {
		t.Errorf("what is gone is still held")
	}
}
