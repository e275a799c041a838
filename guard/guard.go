// Package guard: source text that reads as it is: see DOC.md.
package guard

import "bidiguard/bidi"

// Part is what of a piece of code (0), a string (1) or a comment (2) stands on one line: its bytes in the line, and those of its body.
type Part struct{ Kind, From, To, Body, End int }

// Edit: from byte At of a text on Cut bytes are New.
type Edit struct {
	At, Cut int
	New     string
}

// Classes: P2.
func Classes(line string) ([]int, error) {
	if err := checkLine(line); err != nil {
		return nil, err
	}
	classes := make([]int, 0, len(line))
	for _, r := range line {
		classes = append(classes, int(bidi.ClassOf(r)))
	}
	return classes, nil
}

// Levels: P3.
func Levels(line string, direction int) ([]int, error) {
	if err := checkLine(line); err != nil {
		return nil, err
	}
	return bidi.Levels(line, direction), nil
}

// Order: P4.
func Order(line string, direction int) ([]int, error) {
	levels, err := Levels(line, direction)
	if err != nil {
		return nil, err
	}
	return bidi.Order(levels), nil
}

// Parts: P5, which is not built yet.
func Parts(text string) func(yield func(int, Part) bool) {
	return func(func(int, Part) bool) {}
}

// Safe: P6, which is not built yet.
func Safe(text string) ([]bool, error) { return nil, nil }

// Sanitize: P7, which is not built yet.
func Sanitize(text string) (string, []Edit, error) { return "", nil, nil }

// Apply: P8, which is not built yet.
func Apply(text string, edits []Edit) string { return "" }
