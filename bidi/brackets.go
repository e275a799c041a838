package bidi

import (
	"cmp"
	"slices"

	"bidiguard/stack"
)

// maxOpen: a sequence in which more brackets than that are open at once has no pairs.
const maxOpen = 63

// bracketPairs: each row one that opens, and the one that closes it.
var bracketPairs = [...][2]rune{{'(', ')'}, {'[', ']'}, {'{', '}'}, {0x3008, 0x3009}}

// counted is the bracket that a rune counts as: two ways to write one bracket close each other.
func counted(r rune) rune {
	switch r {
	case 0x2329:
		return 0x3008
	case 0x232A:
		return 0x3009
	}
	return r
}

func isBracket(r rune, side int) bool {
	for _, p := range bracketPairs {
		if p[side] == counted(r) {
			return true
		}
	}
	return false
}

func opens(r rune) bool { return isBracket(r, 0) }

func closes(r rune) bool { return isBracket(r, 1) }

// closings has each pair of brackets that fit as a key.
func closings() map[[2]rune]struct{} {
	fit := map[[2]rune]struct{}{}
	for _, p := range bracketPairs {
		fit[p] = struct{}{}
	}
	return fit
}

// pair: places in a sequence.
type pair struct{ open, shut int }

// pairs are a sequence's pairs of brackets in the order of those that open.
func (s *sequence) pairs() []pair {
	fit := closings()
	var open stack.Stack[int]
	var found []pair
	for i, r := range s.runes {
		switch {
		case s.classes[i] != ON:
		case opens(r) && open.Len() == maxOpen:
			return nil
		case opens(r):
			open.Push(i)
		case closes(r):
			if at, ok := s.closed(&open, fit, r); ok {
				found = append(found, pair{at, i})
			}
		}
	}
	slices.SortFunc(found, func(a, b pair) int { return cmp.Compare(a.open, b.open) })
	return found
}

// closed is the place of the open bracket that r closes; it goes, and all that were opened behind it.
func (s *sequence) closed(open *stack.Stack[int], fit map[[2]rune]struct{}, r rune) (int, bool) {
	for i := open.Len() - 1; i >= 0; i-- {
		at, _ := open.At(i)
		if _, ok := fit[[2]rune{counted(s.runes[at]), counted(r)}]; ok {
			open.Cut(i)
			return at, true
		}
	}
	return 0, false
}

// resolveBrackets: N0.
func (s *sequence) resolveBrackets() {
	for _, p := range s.pairs() {
		if side := s.pairSide(p); side != none {
			s.setBracket(p.open, side)
			s.setBracket(p.shut, side)
		}
	}
}

// pairSide is what the brackets of a pair become; none, if nothing strong stands within.
func (s *sequence) pairSide(p pair) Class {
	own := sideOf(s.level)
	within := Class(none)
	for _, c := range s.classes[p.open+1 : p.shut] {
		if c.side() == own {
			return own
		}
		if c.side() != none {
			within = c.side()
		}
	}
	if within != none && s.sideAhead(p.open) != within {
		return own
	}
	return within
}

func (s *sequence) sideAhead(place int) Class {
	for i := place - 1; i >= 0; i-- {
		if side := s.classes[i].side(); side != none {
			return side
		}
	}
	return s.sos
}

// setBracket: marks upon a bracket go with it.
func (s *sequence) setBracket(place int, side Class) {
	s.classes[place] = side
	for i := place + 1; i < len(s.classes) && s.before[i] == NSM; i++ {
		s.classes[i] = side
	}
}
