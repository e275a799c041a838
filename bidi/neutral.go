package bidi

// resolveNeutralsBetween: N1.
func (s *sequence) resolveNeutralsBetween() {
	isNeutral := func(i int) bool { return s.classes[i].neutral() }
	eachRow(len(s.classes), isNeutral, func(from, to int) {
		if side := s.at(from - 1).side(); side == s.at(to).side() {
			s.set(from, to, side)
		}
	})
}

// resolveNeutralsLeft: N2.
func (s *sequence) resolveNeutralsLeft() {
	for i, c := range s.classes {
		if c.neutral() {
			s.classes[i] = sideOf(s.level)
		}
	}
}
