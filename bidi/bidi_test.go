package bidi

import (
	"fmt"
	"slices"
	"testing"
)

func TestEachRow(t *testing.T) {
	for _, c := range []struct{ signs, want string }{
		{"", "[]"},
		{"--", "[]"},
		{"x", "[[0 1]]"},
		{"xx-x--xxx", "[[0 2] [3 4] [6 9]]"},
		{"-xx-", "[[1 3]]"},
	} {
		rows := [][2]int{}
		belongs := func(i int) bool { return c.signs[i] == 'x' }
		eachRow(len(c.signs), belongs, func(from, to int) { rows = append(rows, [2]int{from, to}) })
		if got := fmt.Sprint(rows); got != c.want {
			t.Errorf("rows of %q: %s, want %s", c.signs, got, c.want)
		}
	}
}

func TestMatches(t *testing.T) {
	for _, c := range []struct {
		classes []Class
		want    []int
	}{
		{[]Class{PDI}, []int{none}},
		{[]Class{LRI, L}, []int{none, none}},
		{[]Class{RLI, L, PDI, PDI}, []int{2, none, 0, none}},
		{[]Class{FSI, RLI, PDI}, []int{none, 2, 1}},
		{[]Class{PDI, LRI, RLI, PDI, FSI, PDI, PDI}, []int{none, 6, 3, 2, 5, 4, 1}},
	} {
		if got := matches(c.classes); !slices.Equal(got, c.want) {
			t.Errorf("matches of %v: %v, want %v", c.classes, got, c.want)
		}
	}
}

// The rows of a line's runs lie in one memory: a sequence that goes on in another run must leave the one between alone.
func TestSequencesShareNothing(t *testing.T) {
	l := newLine("a\u2067\u05d0b\u2069c", 0)
	l.setExplicitLevels()
	var places [][]int
	for _, s := range l.sequences() {
		places = append(places, s.places)
	}
	if got := fmt.Sprint(places); got != "[[0 1 4 5] [2 3]]" {
		t.Errorf("sequences: %s", got)
	}
}

func TestSides(t *testing.T) {
	l := newLine("\u05d0\u202ba\u202c\u2067b", 0)
	l.setExplicitLevels()
	var ends []string
	for _, s := range l.sequences() {
		ends = append(ends, fmt.Sprint(s.level, s.sos, s.eos))
	}
	if got := fmt.Sprint(ends); got != "[0 0 1 1 1 1 0 1 0 1 1 1]" {
		t.Errorf("level, sos and eos: %s", got)
	}
}

// An isolate is as neutral as what a mark upon it becomes: the levels alone would not tell.
func TestMarksUponIsolates(t *testing.T) {
	for _, ahead := range []Class{LRI, RLI, FSI, PDI} {
		s := &sequence{classes: []Class{ahead, NSM, NSM}, sos: L, eos: L}
		s.resolveMarks()
		if want := []Class{ahead, ON, ON}; !slices.Equal(s.classes, want) {
			t.Errorf("marks behind %d: %v, want %v", ahead, s.classes, want)
		}
	}
}

func TestPairs(t *testing.T) {
	for _, c := range []struct{ text, want string }{
		{"()", "[{0 1}]"},
		{")(", "[]"},
		{"(]", "[]"},
		{"(])", "[{0 2}]"},
		{"([)]", "[{0 2}]"},
		{"([{}])", "[{0 5} {1 4} {2 3}]"},
		{"(()", "[{1 2}]"},
		{"\u2329\u3009\u3008\u232a\u2329\u232a\u3008\u3009", "[{0 1} {2 3} {4 5} {6 7}]"},
		{"<>", "[]"},
	} {
		l := newLine(c.text, 0)
		l.setExplicitLevels()
		if got := fmt.Sprint(l.sequences()[0].pairs()); got != c.want {
			t.Errorf("pairs of %q: %s, want %s", c.text, got, c.want)
		}
	}
}

func TestOrderOfLevels(t *testing.T) {
	for _, c := range []struct{ levels, want []int }{
		{nil, []int{}},
		{[]int{0, 2, 2}, []int{0, 1, 2}},
		{[]int{2, 3, 3, 2}, []int{0, 2, 1, 3}},
		{[]int{1, 2, 2, 1}, []int{3, 1, 2, 0}},
		{[]int{0, 1, 2, 3, 4, 1, 0}, []int{0, 5, 2, 4, 3, 1, 6}},
		{[]int{1, 1, 0, 1, 1}, []int{1, 0, 2, 4, 3}},
	} {
		if got := Order(c.levels); !slices.Equal(got, c.want) {
			t.Errorf("Order(%v) = %v, want %v", c.levels, got, c.want)
		}
	}
}

func TestParagraph(t *testing.T) {
	for _, c := range []struct {
		text string
		want int
	}{
		{"", 0},
		{"1 !", 0},
		{"a\u05d0", 0},
		{"\u05d0a", 1},
		{"!\u0627a", 1},
		{"\u2067\u05d0\u2069a", 0},
		{"\u2066a\u2069\u05d0", 1},
		{"\u2066\u05d0", 0},
	} {
		if got := Paragraph(c.text); got != c.want {
			t.Errorf("Paragraph(%+q) = %d, want %d", c.text, got, c.want)
		}
	}
}

func TestClosed(t *testing.T) {
	for _, c := range []struct {
		text string
		want bool
	}{
		{"", true},
		{"a(\u05d0\u200e\u200f\u061c", true},
		{"\u202aa\u202c", true},
		{"\u2068a\u2069", true},
		{"\u202b\u2067\u202d\u202c\u2069\u2066\u2069\u202c\u202e\u202c", true},
		{"\u202a", false},
		{"\u2066", false},
		{"\u202c", false},
		{"\u2069", false},
		{"\u202a\u2069", false},
		{"\u2066\u202c", false},
		{"\u202a\u2066\u202c\u2069", false},
		{"\u2066\u202a\u2069\u202c", false},
		{"\u202c\u202a", false},
	} {
		if got := Closed(c.text); got != c.want {
			t.Errorf("Closed(%+q) = %v, want %v", c.text, got, c.want)
		}
	}
}

func TestTurns(t *testing.T) {
	turning := []Class{LRE, RLE, LRO, RLO, PDF, LRI, RLI, FSI, PDI}
	for c := L - 1; c <= PDI+1; c++ {
		if got := c.Turns(); got != slices.Contains(turning, c) {
			t.Errorf("class %d turns: %v", c, got)
		}
	}
}
