// Package guard: source text that reads as it is: see DOC.md.
package guard

import (
	"strings"

	"bidiguard/bidi"
	"bidiguard/parts"
)

// Part is what of a piece of code (0), a string (1) or a comment (2) stands on one line: its bytes in the line, and those of its body.
type Part = parts.Part

// Edit: from byte At of a text on Cut bytes are New.
type Edit struct {
	At, Cut int
	New     string
}

// Classes: P2.
func Classes(line string) ([]int, error) {
	if err := checkLine(line); err != nil {
		return nil, err
	}
	classes := make([]int, 0, len(line))
	for _, r := range line {
		classes = append(classes, int(bidi.ClassOf(r)))
	}
	return classes, nil
}

// Levels: P3.
func Levels(line string, direction int) ([]int, error) {
	if err := checkLine(line); err != nil {
		return nil, err
	}
	return bidi.Levels(line, direction), nil
}

// Order: P4.
func Order(line string, direction int) ([]int, error) {
	levels, err := Levels(line, direction)
	if err != nil {
		return nil, err
	}
	return bidi.Order(levels), nil
}

// Parts: P5.
func Parts(text string) func(yield func(int, Part) bool) {
	return func(yield func(int, Part) bool) {
		if len(text) <= maxText && yield != nil {
			parts.Read(text, yield)
		}
	}
}

// Safe: P6.
func Safe(text string) ([]bool, error) {
	if err := checkText(text); err != nil {
		return nil, err
	}
	lines := strings.Split(text, "\n")
	partsOf := make([][]Part, len(lines))
	for number, part := range Parts(text) {
		partsOf[number] = append(partsOf[number], part)
	}
	safe := make([]bool, len(lines))
	for number, line := range lines {
		safe[number] = isSafe(line, partsOf[number])
	}
	return safe, nil
}

// Sanitize: P7.
func Sanitize(text string) (string, []Edit, error) {
	safe, err := Safe(text)
	if err != nil {
		return "", nil, err
	}
	edits, err := editsOfText(text, safe)
	if err != nil {
		return "", nil, err
	}
	return Apply(text, edits), edits, nil
}

// Apply: P8.
func Apply(text string, edits []Edit) string {
	var made strings.Builder
	last := 0 // where the last edit that was made ends
	for _, edit := range edits {
		if !liesWithin(edit, last, len(text)) {
			continue
		}
		made.WriteString(text[last:edit.At])
		made.WriteString(edit.New)
		last = edit.At + edit.Cut
	}
	made.WriteString(text[last:])
	return made.String()
}
