package bidi

// sequence is an isolating run sequence: a run of letters that the rules change one behind the other.
type sequence struct {
	places   []int // in the line
	runes    []rune
	classes  []Class
	before   []Class // as they were ahead of W1
	level    int
	sos, eos Class
}

// left are the places of the runes that are not taken out.
func (l *line) left() []int {
	var places []int
	for i, c := range l.table {
		if !c.takenOut() {
			places = append(places, i)
		}
	}
	return places
}

// levelRuns: each run ends its own memory, so that a sequence that grows from it does not write into the next run.
func (l *line) levelRuns() [][]int {
	left := l.left()
	var runs [][]int
	for from := 0; from < len(left); {
		to := from + 1
		for to < len(left) && l.levels[left[to]] == l.levels[left[from]] {
			to++
		}
		runs = append(runs, left[from:to:to])
		from = to
	}
	return runs
}

func (l *line) sequences() []*sequence {
	runs := l.levelRuns()
	beginning := map[int][]int{}
	for _, run := range runs {
		beginning[run[0]] = run
	}
	next := func(run []int) []int { return beginning[l.nextBeginning(run[len(run)-1])] }
	var all []*sequence
	for _, run := range runs {
		if l.goesOn(run[0]) {
			continue
		}
		places := run
		for more := next(run); len(more) > 0; more = next(more) {
			places = append(places, more...)
		}
		all = append(all, l.newSequence(places))
	}
	return all
}

// goesOn: a run that begins there belongs to the sequence of an isolate ahead.
func (l *line) goesOn(first int) bool { return l.table[first] == PDI && l.match[first] != none }

// nextBeginning is where a sequence goes on behind the last rune of a run.
func (l *line) nextBeginning(last int) int {
	if l.table[last].isolates() {
		return l.match[last]
	}
	return none
}

func (l *line) newSequence(places []int) *sequence {
	s := &sequence{places: places, level: l.levels[places[0]]}
	for _, p := range places {
		s.runes = append(s.runes, l.runes[p])
		s.classes = append(s.classes, l.classes[p])
	}
	s.before = make([]Class, len(s.classes))
	copy(s.before, s.classes)
	s.sos = sideOf(max(s.level, l.levelAhead(places[0])))
	s.eos = sideOf(max(s.level, l.levelBehind(places[len(places)-1])))
	return s
}

func (l *line) levelAhead(place int) int {
	for i := place - 1; i >= 0; i-- {
		if !l.table[i].takenOut() {
			return l.levels[i]
		}
	}
	return l.paragraph
}

func (l *line) levelBehind(place int) int {
	// What an open isolate holds does not count as what stands behind it.
	if l.table[place].isolates() && l.match[place] == none {
		return l.paragraph
	}
	for i := place + 1; i < len(l.table); i++ {
		if !l.table[i].takenOut() {
			return l.levels[i]
		}
	}
	return l.paragraph
}
