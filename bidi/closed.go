package bidi

import "bidiguard/stack"

// Closed tells whether each embedding and each isolate of a text is closed within it, each PDF and PDI closes one, and they lie within one another.
func Closed(text string) bool {
	var closers stack.Stack[Class] // of what is open
	for _, r := range text {
		switch c := ClassOf(r); {
		case c.embeds():
			closers.Push(PDF)
		case c.isolates():
			closers.Push(PDI)
		case c.Turns():
			if closer, ok := closers.Pop(); !ok || closer != c {
				return false
			}
		}
	}
	return closers.Len() == 0
}
