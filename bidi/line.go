package bidi

import "bidiguard/stack"

// line is a line on its way to its levels.
type line struct {
	runes     []rune
	table     []Class // by the table alone
	classes   []Class // as overrides have changed them
	levels    []int   // the explicit ones: runs and their ends are judged by them to the last
	match     []int   // of an isolate the place of its matching PDI, of that PDI the isolate's; else none
	paragraph int
}

func newLine(text string, direction int) *line {
	l := &line{}
	for _, r := range text {
		l.runes = append(l.runes, r)
		l.table = append(l.table, ClassOf(r))
	}
	l.classes = make([]Class, len(l.table))
	copy(l.classes, l.table)
	l.levels = make([]int, len(l.table))
	l.match = matches(l.table)
	l.paragraph = l.paragraphLevel(direction)
	return l
}

func matches(classes []Class) []int {
	match := make([]int, len(classes))
	var open stack.Stack[int]
	for i, c := range classes {
		match[i] = none
		if c.isolates() {
			open.Push(i)
		}
		if c != PDI {
			continue
		}
		if isolate, ok := open.Pop(); ok {
			match[isolate], match[i] = i, isolate
		}
	}
	return match
}

func (l *line) paragraphLevel(direction int) int {
	if direction == 0 || direction == 1 {
		return direction
	}
	return l.foundLevel(0, len(l.table))
}

// foundLevel is the paragraph level that the runes of these places ask for.
func (l *line) foundLevel(from, to int) int {
	for i := from; i < to; i++ {
		switch c := l.table[i]; {
		case c == L:
			return 0
		case c == R || c == AL:
			return 1
		case c.isolates():
			i = l.isolateEnd(i)
		}
	}
	return 0
}

// isolateEnd is where an isolate ends: at its matching PDI or at the line's end.
func (l *line) isolateEnd(isolate int) int {
	if l.match[isolate] == none {
		return len(l.table)
	}
	return l.match[isolate]
}
