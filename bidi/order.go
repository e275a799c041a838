package bidi

import "slices"

// Order is the places of runes of these levels, as they are shown from the left to the right (L2).
func Order(levels []int) []int {
	order := make([]int, len(levels))
	highest, lowestOdd := 0, maxDepth+2
	for i, level := range levels {
		order[i] = i
		highest = max(highest, level)
		if sideOf(level) == R {
			lowestOdd = min(lowestOdd, level)
		}
	}
	for turned := highest; turned >= lowestOdd; turned-- {
		// A row keeps its places while rows within it are turned round, so the levels need not be moved.
		eachRow(len(levels), func(i int) bool { return levels[i] >= turned }, func(from, to int) {
			slices.Reverse(order[from:to])
		})
	}
	return order
}
