package bidi

// rules are W1 to W7 and N0 to N2: each needs what the ones ahead of it have made of the whole sequence.
func rules() []func(*sequence) {
	return []func(*sequence){
		(*sequence).resolveMarks,
		(*sequence).resolveArabicNumbers,
		(*sequence).resolveArabicLetters,
		(*sequence).resolveSeparators,
		(*sequence).resolveTerminators,
		(*sequence).resolveLeftSigns,
		(*sequence).resolveLatinNumbers,
		(*sequence).resolveBrackets,
		(*sequence).resolveNeutralsBetween,
		(*sequence).resolveNeutralsLeft,
	}
}

// at is the class at a place of the sequence, sos ahead of the first and eos behind the last.
func (s *sequence) at(i int) Class {
	switch {
	case i < 0:
		return s.sos
	case i >= len(s.classes):
		return s.eos
	}
	return s.classes[i]
}

func (s *sequence) set(from, to int, class Class) {
	for i := from; i < to; i++ {
		s.classes[i] = class
	}
}

// resolveMarks: W1.
func (s *sequence) resolveMarks() {
	for i, c := range s.classes {
		if c != NSM {
			continue
		}
		ahead := s.at(i - 1)
		if ahead.isolates() || ahead == PDI {
			ahead = ON
		}
		s.classes[i] = ahead
	}
}

// resolveArabicNumbers: W2.
func (s *sequence) resolveArabicNumbers() {
	strong := s.sos
	for i, c := range s.classes {
		switch {
		case c == L || c == R || c == AL:
			strong = c
		case c == EN && strong == AL:
			s.classes[i] = AN
		}
	}
}

// resolveArabicLetters: W3.
func (s *sequence) resolveArabicLetters() {
	for i, c := range s.classes {
		if c == AL {
			s.classes[i] = R
		}
	}
}

// resolveSeparators: W4.
func (s *sequence) resolveSeparators() {
	for i := 1; i+1 < len(s.classes); i++ {
		three := [3]Class{s.classes[i-1], s.classes[i], s.classes[i+1]}
		switch {
		case three == [3]Class{EN, ES, EN} || three == [3]Class{EN, CS, EN}:
			s.classes[i] = EN
		case three == [3]Class{AN, CS, AN}:
			s.classes[i] = AN
		}
	}
}

// resolveTerminators: W5.
func (s *sequence) resolveTerminators() {
	isTerminator := func(i int) bool { return s.classes[i] == ET }
	eachRow(len(s.classes), isTerminator, func(from, to int) {
		if s.at(from-1) == EN || s.at(to) == EN {
			s.set(from, to, EN)
		}
	})
}

// resolveLeftSigns: W6.
func (s *sequence) resolveLeftSigns() {
	for i, c := range s.classes {
		if c == ES || c == ET || c == CS {
			s.classes[i] = ON
		}
	}
}

// resolveLatinNumbers: W7.
func (s *sequence) resolveLatinNumbers() {
	strong := s.sos
	for i, c := range s.classes {
		switch {
		case c == L || c == R:
			strong = c
		case c == EN && strong == L:
			s.classes[i] = L
		}
	}
}
