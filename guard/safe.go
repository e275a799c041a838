package guard

import (
	"slices"
	"strings"

	"bidiguard/bidi"
	"bidiguard/parts"
)

// isSafe tells whether a line of these parts reads as it is.
func isSafe(line string, list []Part) bool {
	return bidi.Paragraph(line) == 0 && shownInOrder(line, list) && closedInBodies(line, list)
}

// shownInOrder tells whether the parts are shown one behind the other: then no rune can stand between two of another part.
func shownInOrder(line string, list []Part) bool {
	numbers := partOfEachRune(line, list)
	shown := make([]int, 0, len(numbers))
	for _, place := range bidi.Order(bidi.Levels(line, 0)) {
		shown = append(shown, numbers[place])
	}
	return slices.IsSorted(shown)
}

// partOfEachRune is the number of the part that each rune belongs to. (The ends of parts are ASCII: no rune lies over one.)
func partOfEachRune(line string, list []Part) []int {
	var numbers []int
	for number, part := range list {
		for range line[part.From:part.To] {
			numbers = append(numbers, number)
		}
	}
	return numbers
}

func closedInBodies(line string, list []Part) bool {
	for _, part := range list {
		if !closedInBody(line, part) {
			return false
		}
	}
	return true
}

// closedInBody: the body of code is empty, so that nothing in it can be closed there.
func closedInBody(line string, part Part) bool {
	if part.Kind == parts.Code {
		return !strings.ContainsFunc(line[part.From:part.To], isTurn)
	}
	return bidi.Closed(line[part.Body:part.End])
}
