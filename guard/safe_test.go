package guard_test

import (
	"errors"
	"regexp"
	"slices"
	"strings"
	"testing"

	"bidiguard/guard"
	"bidiguard/plain"
)

type safeCase struct{ text, want string }

// tellSafe is y for a line that is safe, else n.
func tellSafe(lines []bool) string {
	var told strings.Builder
	for _, safe := range lines {
		if safe {
			told.WriteByte('y')
		} else {
			told.WriteByte('n')
		}
	}
	return told.String()
}

func checkSafe(t *testing.T, cases []safeCase) {
	t.Helper()
	for _, c := range cases {
		got, err := guard.Safe(c.text)
		if err != nil || tellSafe(got) != c.want {
			t.Errorf("P6: Safe(%+q) = %s, %v, want %s", c.text, tellSafe(got), err, c.want)
		}
	}
}

func TestSafeLines(t *testing.T) {
	checkSafe(t, []safeCase{
		{"", "y"},
		{"\n", "yy"},
		{"a", "y"},
		{"a\n", "yy"},
		{"\n\na\n", "yyyy"},
		{"x = \"s\"; // c\r\n/* d\ne */", "yyy"},
		{"x = \"\u05d0\";\nx = \"\u05d0\", \"\u05d1\";\n", "yny"},
		{strings.Repeat("\n", 600), strings.Repeat("y", 601)},
	})
}

func TestSafeNeedsALineFromTheLeft(t *testing.T) {
	checkSafe(t, []safeCase{
		{"\u05d0", "n"},
		{"\u0627", "n"},
		{"\u200f", "n"},
		{"!\u05d0a", "n"},
		{"1\u05d0", "n"},
		{"\u0661", "y"},
		{"a\u05d0", "y"},
		{"\u200e\u05d0", "y"},
		{"\"\u05d0\"", "n"},
		{"//\u05d0", "n"},
		{"/*\u05d0*/ x", "n"},
		{"/* a\n\u05d0 */", "yn"},
		{"a\n\u05d0\nb", "yny"},
		{"//\u2067\u05d0\u2069", "y"},
		{"//\u2066\u05d0\u2069", "y"},
		{"//\u2067\u05d0\u2069\u05d0", "n"},
		{"//\u2067\u05d0\u2069a\u05d0", "y"},
		{"//\u202a\u05d0\u202c", "n"},
		{"//\u202ba\u202c", "y"},
	})
}

func TestSafeNeedsPartsInOrder(t *testing.T) {
	checkSafe(t, []safeCase{
		{"x = \"\u05d0\";", "y"},
		{"x = \"\u05d0\", \"\u05d1\";", "n"},
		{"x = \"\u05d0\", y, \"\u05d1\";", "y"},
		{"x = \"\u05d0\"/*\u05d1*/;", "n"},
		{"x = \"\u05d0\"/*a\u05d1*/;", "y"},
		{"x = \"\u05d0 \u05d1 12 \u05d2\";", "y"},
		{"x = \u05d0 \u05d1;", "y"},
		{"x = \u05d0 \"\u05d1\"", "n"},
		{"x = \u05d0 \"a\u05d1\"", "y"},
		{"x \"\u05d0\" 1", "n"},
		{"x \"\u05d0\" a1", "y"},
		{"x \"\u05d0\u200e\" 1", "y"},
		{"x \"\u05d0\"1\"\u200e\"", "n"},
		{"x = \"\u0661\", 1;", "y"},
		{"x = \"\u0661\"\"\u0662\";", "n"},
		{"x = \"\u0661\"a\"\u0662\";", "y"},
		{"x = \"\u0627\"1;", "n"},
		{"x = \"\u2067\u05d0\u2069\", \"\u05d1\";", "y"},
		{"x = \"\u202b\u05d0\u202c\", \"\u05d1\";", "n"},
		{"x = \"\u202ea\u202c\"1\"\u202eb\u202c\";", "n"},
		{"x = \"\u05d0\n\"\u05d1\"", "yn"},
		{"x /* \u05d0\n y \u05d1 */ z", "yy"},
		{"x /* \u05d0\n y \u05d1 */ 1", "yn"},
		{"x \"\u05d0\"\t\"\u05d1\"", "y"},
		{"x \"\u05d0\" \"\u05d1\"", "n"},
	})
}

func TestSafeNeedsClosedBodies(t *testing.T) {
	for _, opens := range []string{"\u202a", "\u202b", "\u202d", "\u202e"} {
		checkSafe(t, closings(opens, "\u202c", "\u2069"))
	}
	for _, opens := range []string{"\u2066", "\u2067", "\u2068"} {
		checkSafe(t, closings(opens, "\u2069", "\u202c"))
	}
}

// closings are lines with what opens, what closes it, and what closes others; but for that they would be safe.
func closings(opens, closes, other string) []safeCase {
	return []safeCase{
		{"x \"a" + opens + "b" + closes + "c\"", "y"},
		{"x \"a" + opens + closes + opens + closes, "y"},
		{"x \"a" + opens + "b" + opens + "c" + closes + closes + "d\"", "y"},
		{"x \"a\\" + opens + "b" + closes + "c\"", "y"},
		{"x //a" + opens + "b" + closes + "c", "y"},
		{"x /*a" + opens + "b" + closes + "c*/ d", "y"},
		{"x /*a" + opens + "b" + closes + "\n" + "a" + opens + "b" + closes + "*/", "yy"},
		{"x \"a" + opens + "\"", "n"},
		{"x \"a" + closes + "\"", "n"},
		{"x \"a" + closes + opens + "\"", "n"},
		{"x \"a" + opens + other + "\"", "n"},
		{"x \"a" + opens + closes + closes + "\"", "n"},
		{"x \"a" + opens + opens + closes + "\"", "n"},
		{"x \"a" + opens + closes + other + "\"", "n"},
		{"x \"a" + opens + "\" b \"" + closes + "\"", "n"},
		{"x \"a" + opens + "\" //" + closes, "n"},
		{"x /*a" + opens + "\n" + closes + "*/", "nn"},
		{"x //a" + opens + "\nb //c" + closes, "nn"},
		{"x " + opens + closes, "n"},
		{"x " + opens, "n"},
		{"x " + closes, "n"},
		{"x " + opens + "\"a\"" + closes, "n"},
	}
}

func TestSafeNeedsClosedWithinOneAnother(t *testing.T) {
	checkSafe(t, []safeCase{
		{"x \"a\u202a\u2066b\u2069\u202c\"", "y"},
		{"x \"a\u2066\u202ab\u202c\u2069\"", "y"},
		{"x \"a\u2066\u202a\u2066\u202d\u202c\u2069\u202c\u2069\"", "y"},
		{"x \"a\u202a\u2066b\u202c\u2069\"", "n"},
		{"x \"a\u2066\u202ab\u2069\u202c\"", "n"},
		{"x \"a\u2066\u202ab\u2069\"", "n"},
		{"x \"a\u202a\u2066b\u202c\"", "n"},
		{"x \"a\u2066\u202cb\u2069\"", "n"},
		{"x \"a" + strings.Repeat("\u202a", 70) + strings.Repeat("\u202c", 70) + "\"", "y"},
		{"x \"a" + strings.Repeat("\u2066", 70) + strings.Repeat("\u2069", 69) + "\"", "n"},
	})
}

// What is no sign of these may stand in code, and need not be closed.
func TestSafeWithMarks(t *testing.T) {
	checkSafe(t, []safeCase{
		{"x\u200ey", "y"},
		{"x\u200fy", "y"},
		{"x\u061cy", "y"},
		{"x\u00ad\u200by", "y"},
		{"x \"\u200e\" \"\u200f\"", "y"},
	})
}

func TestErrorsOfAText(t *testing.T) {
	rep := strings.Repeat
	none := plain.Fault{}
	long, text := 1, 2
	for _, c := range []struct {
		name, text string
		want       plain.Fault
	}{
		{"600 bytes", rep("a", 300) + "\n" + rep("a", 299), none},
		{"300 runes of 600 bytes", rep("\u05d0", 300), none},
		{"a replacement rune that was written", "\ufffd", none},
		{"601 bytes", rep("a\n", 300) + "a", plain.Fault{E: long, Line: -1, At: -1}},
		{"601 bytes in one line", rep("a", 601), plain.Fault{E: long, Line: -1, At: -1}},
		{"601 bytes, no text", rep("\xff", 601), plain.Fault{E: long, Line: -1, At: -1}},
		{"600 bytes, no text", rep("\xff", 600), plain.Fault{E: text, Line: 0, At: 0}},
		{"a byte of no rune", "a\xff", plain.Fault{E: text, Line: 0, At: 1}},
		{"two lines that are no text", "ok\nab\xff\xff\n\xff", plain.Fault{E: text, Line: 1, At: 2}},
		{"bytes are counted, not runes", "\u05d0\u05d0\u2067\xff", plain.Fault{E: text, Line: 0, At: 7}},
		{"behind a replacement rune", "\ufffd\xff", plain.Fault{E: text, Line: 0, At: 3}},
		{"a rune cut off at the end", "\u05d0\xe2\x80", plain.Fault{E: text, Line: 0, At: 2}},
		{"a rune cut off by a line feed", "a\xe2\x80\n\xa8", plain.Fault{E: text, Line: 0, At: 1}},
		{"a surrogate", "\n\n\xed\xa0\x80", plain.Fault{E: text, Line: 2, At: 0}},
		{"a rune written too long", "a\n\n\u05d0\xc0\xaf", plain.Fault{E: text, Line: 2, At: 2}},
		{"a rune beyond the last", "\xf4\x90\x80\x80", plain.Fault{E: text, Line: 0, At: 0}},
		{"no text within a string", "\"\xff\"", plain.Fault{E: text, Line: 0, At: 1}},
		{"301 runes", rep("a", 301), plain.Fault{E: long, Line: 0, At: 0}},
		{"301 runes in a later line", "a\n\n" + rep("a", 301) + "\nb", plain.Fault{E: long, Line: 2, At: 0}},
		{"301 runes at the end", "\n" + rep("\u05d0", 298) + "aaa", plain.Fault{E: long, Line: 1, At: 0}},
		{"301 runes, then no text", rep("a", 301) + "\nabc\xff", plain.Fault{E: text, Line: 1, At: 3}},
		{"301 runes and no text in one line", rep("a", 301) + "\xff", plain.Fault{E: text, Line: 0, At: 301}},
	} {
		got, fault := plain.Safe(c.text)
		if fault != c.want || fault != none && got != nil {
			t.Errorf("P6: Safe of %s: %v, %v, want %v", c.name, got, fault, c.want)
		}
	}
}

func TestErrorTypesOfAText(t *testing.T) {
	_, err := guard.Safe(strings.Repeat("a", 601))
	if err != guard.ErrLong {
		t.Errorf("P6: of a long text: %v", err)
	}
	_, err = guard.Safe("\n\xff")
	var line *guard.LineError
	if !errors.As(err, &line) || line.Line != 1 || line.At != 0 || line.Err != guard.ErrText || !errors.Is(err, guard.ErrText) {
		t.Errorf("P6: of no text: %v", err)
	}
	_, err = guard.Safe(strings.Repeat("a", 301))
	if !errors.As(err, &line) || line.Line != 0 || line.At != 0 || line.Err != guard.ErrLong || !errors.Is(err, guard.ErrLong) {
		t.Errorf("P6: of a long line: %v", err)
	}
}

// readsAsItIs is the document's sentence on safe lines, word by word.
func readsAsItIs(t *testing.T, line string, parts []guard.Part) bool {
	t.Helper()
	order, err := guard.Order(line, 0)
	if err != nil {
		t.Fatalf("P4: of %+q: %v", line, err)
	}
	safe := fromTheLeft(line)
	last := -1
	at := 0
	for _, p := range parts {
		var shown []int
		for range line[p.From:p.To] {
			shown = append(shown, slices.Index(order, at))
			at++
		}
		beside := slices.Max(shown)-slices.Min(shown) == len(shown)-1
		safe = safe && beside && slices.Min(shown) > last && allClosed(line, p)
		last = slices.Max(shown)
	}
	return safe
}

// isolated: an isolate that holds none, to its PDI.
var isolated = regexp.MustCompile("[\u2066-\u2068][^\u2066-\u2069]*\u2069")

// fromTheLeft takes away what stands within isolates, and looks at what is left.
func fromTheLeft(line string) bool {
	for isolated.MatchString(line) {
		line = isolated.ReplaceAllString(line, "")
	}
	if open := strings.IndexAny(line, "\u2066\u2067\u2068"); open >= 0 {
		line = line[:open]
	}
	classes, _ := guard.Classes(line)
	strong := slices.IndexFunc(classes, func(class int) bool { return class <= 2 })
	return strong < 0 || classes[strong] == 0
}

// allClosed takes away what closes one another until there is no more of it.
func allClosed(line string, p guard.Part) bool {
	left := turningSigns(line[p.From:p.To])
	if p.Kind == 0 {
		return left == ""
	}
	for {
		less := strings.ReplaceAll(strings.ReplaceAll(left, "eE", ""), "iI", "")
		if less == left {
			return left == ""
		}
		left = less
	}
}

// turningSigns: e and i for what embeds and isolates, E and I for what ends that.
func turningSigns(text string) string {
	var signs strings.Builder
	for _, r := range text {
		switch r {
		case 0x202A, 0x202B, 0x202D, 0x202E:
			signs.WriteByte('e')
		case 0x202C:
			signs.WriteByte('E')
		case 0x2066, 0x2067, 0x2068:
			signs.WriteByte('i')
		case 0x2069:
			signs.WriteByte('I')
		}
	}
	return signs.String()
}

func TestSafeOfManyTexts(t *testing.T) {
	met := [2]int{}
	for _, text := range manyTexts() {
		got, err := guard.Safe(text)
		if err != nil {
			if got != nil {
				t.Fatalf("P1: of %+q beside an error: %v", text, got)
			}
			continue
		}
		lines := strings.Split(text, "\n")
		parts := make([][]guard.Part, len(lines))
		for number, p := range guard.Parts(text) {
			parts[number] = append(parts[number], p)
		}
		want := make([]bool, len(lines))
		for number, line := range lines {
			want[number] = readsAsItIs(t, line, parts[number])
			if want[number] {
				met[0]++
			} else {
				met[1]++
			}
		}
		if !slices.Equal(got, want) {
			t.Fatalf("P6: Safe(%+q) = %s, want %s", text, tellSafe(got), tellSafe(want))
		}
	}
	if met[0] < 2000 || met[1] < 2000 {
		t.Errorf("too few lines are safe, or too few are not: %v", met)
	}
}
