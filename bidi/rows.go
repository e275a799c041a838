package bidi

// eachRow tells of each row of places below n that belong, as long as can be: its first place and the one behind its last.
func eachRow(n int, belongs func(i int) bool, tell func(from, to int)) {
	for from := 0; from < n; from++ {
		to := from
		for to < n && belongs(to) {
			to++
		}
		if to > from {
			tell(from, to)
			from = to
		}
	}
}
