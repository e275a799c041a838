package guard_test

import (
	"math"
	"slices"
	"strings"
	"testing"

	"bidiguard/guard"
)

type applyCase struct {
	text  string
	edits []guard.Edit
	want  string
}

func checkApply(t *testing.T, cases []applyCase) {
	t.Helper()
	for _, c := range cases {
		kept := slices.Clone(c.edits)
		if got := guard.Apply(c.text, c.edits); got != c.want {
			t.Errorf("P8: Apply(%+q, %s) = %+q, want %+q", c.text, tellEdits(c.edits), got, c.want)
		}
		if !slices.Equal(c.edits, kept) {
			t.Errorf("P1: the edits were %s, and are %s", tellEdits(kept), tellEdits(c.edits))
		}
	}
}

func TestApply(t *testing.T) {
	checkApply(t, []applyCase{
		{"abc", []guard.Edit{{1, 2, "x"}, {2, 1, "y"}, {3, 0, "z"}}, "axz"},
		{"", nil, ""},
		{"abc", nil, "abc"},
		{"abc", []guard.Edit{}, "abc"},
		{"", []guard.Edit{{0, 0, "x"}, {0, 0, "y"}}, "xy"},
		{"abc", []guard.Edit{{0, 0, ""}}, "abc"},
		{"abc", []guard.Edit{{0, 3, ""}}, ""},
		{"abc", []guard.Edit{{0, 3, "x"}, {3, 0, "y"}}, "xy"},
		{"abc", []guard.Edit{{0, 1, "x"}, {1, 1, "y"}, {2, 1, "z"}}, "xyz"},
		{"abc", []guard.Edit{{0, 0, "longer than the text"}, {3, 0, "!"}}, "longer than the textabc!"},
		{"abc", []guard.Edit{{1, 0, "x"}, {1, 0, "y"}, {1, 1, "z"}, {2, 0, "w"}}, "axyzwc"},
		{"\u05d0b", []guard.Edit{{1, 1, "x"}}, "\xd7xb"},
		{"a\xffc", []guard.Edit{{1, 1, "\xfe"}}, "a\xfec"},
		{"a\nb", []guard.Edit{{1, 1, "\n\n"}, {3, 0, "\n"}}, "a\n\nb\n"},
		{strings.Repeat("a", 5000), []guard.Edit{{4999, 1, "b"}}, strings.Repeat("a", 4999) + "b"},
	})
}

func TestApplyLeavesOut(t *testing.T) {
	checkApply(t, []applyCase{
		{"abc", []guard.Edit{{2, 1, "x"}, {0, 1, "y"}}, "abx"},
		{"abc", []guard.Edit{{1, 1, "x"}, {1, 0, "y"}, {1, 1, "z"}}, "axc"},
		{"abc", []guard.Edit{{1, 1, "x"}, {0, 2, "y"}, {2, 1, "z"}}, "axz"},
		{"abc", []guard.Edit{{2, 0, "x"}, {1, 0, "y"}, {1, 1, "z"}, {2, 0, "w"}}, "abxwc"},
		{"abc", []guard.Edit{{4, 0, "x"}}, "abc"},
		{"abc", []guard.Edit{{3, 1, "x"}}, "abc"},
		{"abc", []guard.Edit{{0, 4, "x"}}, "abc"},
		{"", []guard.Edit{{0, 1, "x"}, {1, 0, "y"}}, ""},
		{"abc", []guard.Edit{{-1, 0, "x"}}, "abc"},
		{"abc", []guard.Edit{{-1, 1, "x"}}, "abc"},
		{"abc", []guard.Edit{{-1, 2, "x"}}, "abc"},
		{"abc", []guard.Edit{{0, -1, "x"}}, "abc"},
		{"abc", []guard.Edit{{2, -1, "x"}}, "abc"},
		{"abc", []guard.Edit{{3, -3, "x"}}, "abc"},
		{"abc", []guard.Edit{{4, -1, "x"}}, "abc"},
		{"abc", []guard.Edit{{5, -5, "x"}}, "abc"},
	})
}

// What is left out doesn't count for what comes behind it.
func TestApplyBehindWhatIsLeftOut(t *testing.T) {
	checkApply(t, []applyCase{
		{"abc", []guard.Edit{{0, 4, "x"}, {0, 1, "y"}}, "ybc"},
		{"abc", []guard.Edit{{2, 2, "x"}, {1, 1, "y"}}, "ayc"},
		{"abc", []guard.Edit{{9, 0, "x"}, {0, 0, "y"}}, "yabc"},
		{"abc", []guard.Edit{{2, -1, "x"}, {0, 1, "y"}}, "ybc"},
		{"abc", []guard.Edit{{1, 1, "x"}, {1, 2, "y"}, {2, 0, "z"}}, "axzc"},
	})
}

func TestApplyOfGreatNumbers(t *testing.T) {
	for _, e := range []guard.Edit{
		{math.MaxInt, 0, "x"},
		{0, math.MaxInt, "x"},
		{1, math.MaxInt, "x"},
		{math.MaxInt, 1, "x"},
		{math.MaxInt, math.MaxInt, "x"},
		{math.MinInt, 0, "x"},
		{0, math.MinInt, "x"},
		{math.MinInt, math.MinInt, "x"},
		{math.MinInt, math.MaxInt, "x"},
		{math.MaxInt, math.MinInt, "x"},
		{3, math.MinInt, "x"},
		{4, math.MinInt, "x"},
		{math.MaxInt, -math.MaxInt, "x"},
	} {
		checkApply(t, []applyCase{{"abc", []guard.Edit{e, {1, 1, "y"}}, "ayc"}})
	}
}

// appliedBackwards makes those edits that are to be made from the last to the first, each in place.
func appliedBackwards(text string, edits []guard.Edit) string {
	var made []guard.Edit
	end := 0
	for _, e := range edits {
		if e.At < 0 || e.Cut < 0 || e.At < end || e.At+e.Cut > len(text) {
			continue
		}
		made = append(made, e)
		end = e.At + e.Cut
	}
	for _, e := range slices.Backward(made) {
		text = text[:e.At] + e.New + text[e.At+e.Cut:]
	}
	return text
}

func TestApplyOfManyEdits(t *testing.T) {
	next := numbers()
	for range 20000 {
		text := "abcdefghijkl"[:next(13)]
		var edits []guard.Edit
		at := 0
		for range next(6) {
			at += next(5) - 1
			edits = append(edits, guard.Edit{At: at, Cut: next(5) - 1, New: "XYZ"[:next(4)]})
		}
		checkApply(t, []applyCase{{text, edits, appliedBackwards(text, edits)}})
	}
}
