package bidi

// Paragraph is the paragraph level that is found for a line.
func Paragraph(text string) int { return newLine(text, 2).paragraph }

// Levels is the level of each rune of a line, from the paragraph level for a direction: 0, 1, or another that is found.
func Levels(text string, direction int) []int {
	l := newLine(text, direction)
	l.setExplicitLevels()
	levels := make([]int, len(l.levels))
	copy(levels, l.levels)
	all := rules()
	for _, s := range l.sequences() {
		for _, rule := range all {
			rule(s)
		}
		s.setImplicitLevels(levels)
	}
	l.setLastLevels(levels)
	return levels
}

// setImplicitLevels: I. The levels are explicit ones still.
func (s *sequence) setImplicitLevels(levels []int) {
	for i, p := range s.places {
		levels[p] += rise(s.level, s.classes[i])
	}
}

func rise(level int, class Class) int {
	number := class == EN || class == AN
	switch {
	case number && sideOf(level) == L:
		return 2
	case number || class != sideOf(level):
		return 1
	}
	return 0
}

// setLastLevels: L1.
func (l *line) setLastLevels(levels []int) {
	for i, c := range l.table {
		if c.takenOut() {
			levels[i] = none
		}
		if c == S {
			levels[i] = l.paragraph
		}
	}
	trails := func(i int) bool { return l.table[i].trails() }
	eachRow(len(levels), trails, func(from, to int) {
		if to < len(levels) && l.table[to] != S {
			return
		}
		for i := from; i < to; i++ {
			levels[i] = l.paragraph
		}
	})
	l.fillTakenOut(levels)
}

// fillTakenOut gives what has no level yet the level ahead of it, which is a last one by then.
func (l *line) fillTakenOut(levels []int) {
	ahead := l.paragraph
	for i, level := range levels {
		if level == none {
			levels[i] = ahead
		}
		ahead = levels[i]
	}
}
