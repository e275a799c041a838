package guard_test

import (
	"errors"
	"fmt"
	"regexp"
	"slices"
	"strings"
	"testing"

	"bidiguard/guard"
	"bidiguard/plain"
)

// tellEdits is each edit as its place, what it cuts, and what is new.
func tellEdits(edits []guard.Edit) string {
	var all []string
	for _, e := range edits {
		all = append(all, fmt.Sprintf("%d+%d %+q", e.At, e.Cut, e.New))
	}
	return strings.Join(all, ", ")
}

type sanitizeCase struct{ text, want, edits string }

func checkSanitize(t *testing.T, cases []sanitizeCase) {
	t.Helper()
	for _, c := range cases {
		got, edits, err := guard.Sanitize(c.text)
		if err != nil || got != c.want || tellEdits(edits) != c.edits {
			t.Errorf("P7: Sanitize(%+q) = %+q, %s, %v, want %+q, %s", c.text, got, tellEdits(edits), err, c.want, c.edits)
		}
		checkSafeForGood(t, c.want)
	}
}

// checkSafeForGood: P9, of what Sanitize has answered.
func checkSafeForGood(t *testing.T, text string) {
	t.Helper()
	safe, err := guard.Safe(text)
	if err != nil || slices.Contains(safe, false) {
		t.Errorf("P9: Safe(%+q) = %s, %v", text, tellSafe(safe), err)
	}
	again, edits, err := guard.Sanitize(text)
	if err != nil || again != text || len(edits) != 0 {
		t.Errorf("P9: Sanitize(%+q) = %+q, %s, %v", text, again, tellEdits(edits), err)
	}
}

func TestSanitizeOfTheExamples(t *testing.T) {
	checkSanitize(t, []sanitizeCase{
		{"x = \"\u05d0\";", "x = \"\u05d0\";", ""},
		{"x = \"\u05d0\", \"\u05d1\";", "x = \"\\u05d0\", \"\\u05d1\";", `5+2 "\\u05d0", 11+2 "\\u05d1"`},
		{"// \u202e x", "//\u2068 <U+202E> x\u2069", `2+0 "\u2068", 3+3 "<U+202E>", 8+0 "\u2069"`},
	})
	checkHazardStays(t, []hazardCase{
		{"x\u2067y\u2069", 0, 1},
		{"\"\\\u05d0\"", 0, 2},
	})
}

func TestSanitizeLeavesSafeLines(t *testing.T) {
	for _, text := range []string{
		"",
		"\n",
		"a",
		"a\n",
		"\n\na\r\n\n",
		"x = \"\u05d0\";",
		"x = \u05d0;",
		"x \"\\\u05d0\"",
		"x \"\\\u2067\\\u2069\"",
		"x \"a\u202eb\u202c\" // \u2067\u05d0\u2069",
		"x /* \u05d0\ny \u05d1 */ z",
		"x\u200ey\u200fz",
		"x = 1; /* ok */ // ok",
		strings.Repeat("\n", 600),
		strings.Repeat("a", 300) + "\n" + strings.Repeat("b", 299),
	} {
		checkSanitize(t, []sanitizeCase{{text, text, ""}})
	}
}

func TestSanitizeAmongSafeLines(t *testing.T) {
	checkSanitize(t, []sanitizeCase{
		{"x \"\u05d0\"\n\"\u05d0\"\nx \"\u05d0\"", "x \"\u05d0\"\n\"\\u05d0\"\nx \"\u05d0\"", `8+2 "\\u05d0"`},
		{"x = \u05d0\n//\u05d0\nx\u05d0 //a\u05d0", "x = \u05d0\n//\u2068\u05d0\u2069\nx\u05d0 //a\u05d0", `9+0 "\u2068", 11+0 "\u2069"`},
		{"/* x \u05d0\n\u05d1\ny \u05d2 */ z", "/* x \u05d0\n\u2068\u05d1\u2069\ny \u05d2 */ z", `8+0 "\u2068", 10+0 "\u2069"`},
		{"/*\n\n\u05d0\n\n*/", "/*\n\n\u2068\u05d0\u2069\n\n*/", `4+0 "\u2068", 6+0 "\u2069"`},
		{"x \"\\\u05d0\"\n\"\u05d0\"", "x \"\\\u05d0\"\n\"\\u05d0\"", `9+2 "\\u05d0"`},
		{"\"\u05d0\"\n\n\"\u05d1\"\n", "\"\\u05d0\"\n\n\"\\u05d1\"\n", `1+2 "\\u05d0", 7+2 "\\u05d1"`},
	})
}

func TestSanitizeOfStrings(t *testing.T) {
	checkSanitize(t, []sanitizeCase{
		{"\"\u05d0\"", "\"\\u05d0\"", `1+2 "\\u05d0"`},
		{"\"\u05d0", "\"\\u05d0", `1+2 "\\u05d0"`},
		{"\"\u05d0\\", "\"\\u05d0\\", `1+2 "\\u05d0"`},
		{"\"\u05d0\\\n\"", "\"\\u05d0\\\n\"", `1+2 "\\u05d0"`},
		{"\"a\u05d0b\u200ec\"", "\"a\u05d0b\u200ec\"", ""},
		{"\"\u05d0b\u200ec\"", "\"\\u05d0b\\u200ec\"", `1+2 "\\u05d0", 4+3 "\\u200e"`},
		{"\"\u05d0\u064b\u0300\u00ad\"", "\"\\u05d0\u064b\u0300\u00ad\"", `1+2 "\\u05d0"`},
		{"\"\u202eab\u202c\" 1 \"\u05d0\"", "\"\\u202eab\\u202c\" 1 \"\\u05d0\"", `1+3 "\\u202e", 6+3 "\\u202c", 14+2 "\\u05d0"`},
		{"\"\\\\\u05d0\"", "\"\\\\\\u05d0\"", `3+2 "\\u05d0"`},
		{"\"\\\\\\\\\u05d0\"", "\"\\\\\\\\\\u05d0\"", `5+2 "\\u05d0"`},
		{"\"\\1\u05d0\"", "\"\\1\\u05d0\"", `3+2 "\\u05d0"`},
		{"\"\\\"\u05d0\"", "\"\\\"\\u05d0\"", `3+2 "\\u05d0"`},
		{"\"\\\u00e4\u05d0\" 1", "\"\\\u00e4\\u05d0\" 1", `4+2 "\\u05d0"`},
		{"\"\\\"/*\u05d0\" //a", "\"\\\"/*\\u05d0\" //a", `5+2 "\\u05d0"`},
		{"\\\"\u05d0\"", "\\\"\\u05d0\"", `2+2 "\\u05d0"`},
		{"\"\\\"\\\\\"\"\u05d0\"", "\"\\\"\\\\\"\"\\u05d0\"", `7+2 "\\u05d0"`},
	})
}

func TestSanitizeOfComments(t *testing.T) {
	checkSanitize(t, []sanitizeCase{
		{"//\u05d0", "//\u2068\u05d0\u2069", `2+0 "\u2068", 4+0 "\u2069"`},
		{"// \u05d0 \u200e \u0661 ", "//\u2068 \u05d0 \u200e \u0661 \u2069", `2+0 "\u2068", 13+0 "\u2069"`},
		{"/*\u05d0", "/*\u2068\u05d0\u2069", `2+0 "\u2068", 4+0 "\u2069"`},
		{"/*\u05d0*/", "/*\u2068\u05d0\u2069*/", `2+0 "\u2068", 4+0 "\u2069"`},
		{"/*/\u05d0**/", "/*\u2068/\u05d0*\u2069*/", `2+0 "\u2068", 6+0 "\u2069"`},
		{"/*\n\u05d0*/", "/*\n\u2068\u05d0\u2069*/", `3+0 "\u2068", 5+0 "\u2069"`},
		{"/*\n\u05d0\n*/", "/*\n\u2068\u05d0\u2069\n*/", `3+0 "\u2068", 5+0 "\u2069"`},
		{"//\\\u05d0", "//\u2068\\\u05d0\u2069", `2+0 "\u2068", 5+0 "\u2069"`},
		{"//\"\\\u202e\"", "//\u2068\"\\<U+202E>\"\u2069", `2+0 "\u2068", 4+3 "<U+202E>", 8+0 "\u2069"`},
		{"//\u202e", "//\u2068<U+202E>\u2069", `2+0 "\u2068", 2+3 "<U+202E>", 5+0 "\u2069"`},
		{"//\u2068\u05d0\u2069\u202c", "//\u2068<U+2068>\u05d0<U+2069><U+202C>\u2069", `2+0 "\u2068", 2+3 "<U+2068>", 7+3 "<U+2069>", 10+3 "<U+202C>", 13+0 "\u2069"`},
		{"x /*\u202ea\u202c*/ \u2003/**/ /*b*/ //\u2069", "x /*\u2068<U+202E>a<U+202C>\u2069*/ \u2003/**/ /*b*/ //\u2068<U+2069>\u2069", `4+0 "\u2068", 4+3 "<U+202E>", 8+3 "<U+202C>", 11+0 "\u2069", 30+0 "\u2068", 30+3 "<U+2069>", 33+0 "\u2069"`},
		{"/*\u200e*/ /*a*/ \"\u202e\"", "/*\u2068\u200e\u2069*/ /*a*/ \"\\u202e\"", `2+0 "\u2068", 5+0 "\u2069", 15+3 "\\u202e"`},
		{"/*\u0661*/\"\u0662\"", "/*\u2068\u0661\u2069*/\"\\u0662\"", `2+0 "\u2068", 4+0 "\u2069", 7+2 "\\u0662"`},
	})
}

// Runes of all kinds, in a line that is not safe: only hazards are written anew, in comments only those that turn the direction.
func TestSanitizeOfEachRune(t *testing.T) {
	for r := rune(0); r <= 0x10FFFF; r++ {
		if r == 0x3100 {
			r = 0xFFF0
		}
		if r == 0x10010 {
			r = 0x10FFF0
		}
		turns := r >= 0x202A && r <= 0x202E || r >= 0x2066 && r <= 0x2069
		letter := r >= 0x05D0 && r <= 0x05EA || r >= 0x0627 && r <= 0x064A || r >= 0x0660 && r <= 0x0669
		mark := r == 0x200E || r == 0x200F || r == 0x061C
		quoted, noted := string(r), string(r)
		if turns || letter || mark {
			quoted = fmt.Sprintf(`\u%04x`, r)
		}
		if turns {
			noted = fmt.Sprintf("<U+%04X>", r)
		}
		got, _, err := guard.Sanitize("\"\u05d0" + string(r))
		if want := `"\u05d0` + quoted; err != nil || got != want {
			t.Errorf("P7: U+%04X in a string: %+q, %v, want %+q", r, got, err, want)
		}
		want := "//\u2068\u05d0" + noted + "\u2069"
		if r == '\n' {
			want = "//\u2068\u05d0\u2069\n"
		}
		if got, _, err = guard.Sanitize("//\u05d0" + string(r)); err != nil || got != want {
			t.Errorf("P7: U+%04X in a comment: %+q, %v, want %+q", r, got, err, want)
		}
		_, _, fault := plain.Sanitize("\"\u05d0\"\t" + string(r))
		if stays := quoted != string(r); stays && fault != (plain.Fault{E: 3, Line: 0, At: 5}) || !stays && fault.E != 0 {
			t.Errorf("P7: U+%04X in code: %v", r, fault)
		}
	}
}

type hazardCase struct {
	text     string
	line, at int
}

func checkHazardStays(t *testing.T, cases []hazardCase) {
	t.Helper()
	for _, c := range cases {
		got, edits, err := guard.Sanitize(c.text)
		var line *guard.LineError
		if !errors.As(err, &line) || *line != (guard.LineError{Line: c.line, At: c.at, Err: guard.ErrCode}) || !errors.Is(err, guard.ErrCode) {
			t.Errorf("P7: Sanitize(%+q): %v, want ErrCode in line %d at %d", c.text, err, c.line, c.at)
		}
		if got != "" || edits != nil {
			t.Errorf("P1: Sanitize(%+q) beside an error: %+q, %v", c.text, got, edits)
		}
	}
}

func TestSanitizeOfHazardsThatStay(t *testing.T) {
	checkHazardStays(t, []hazardCase{
		{"\u05d0", 0, 0},
		{"a\u202e", 0, 1},
		{"\u00e4\u05d0\u2067", 0, 2},
		{"x\u200e \u2067", 0, 1},
		{"\"\u05d0\" \u0661", 0, 5},
		{"\"\u05d0\" \u200e", 0, 5},
		{"\"\u05d0\"/*\u05d0*/\u05d0", 0, 10},
		{"a\n\u05d0\nb", 1, 0},
		{"x \u05d0\ny\u202e\nz\u202e", 1, 1},
		{"\"\u05d0\"\n//\u202e\na \u202e", 2, 2},
		{"/*\u05d0\n\u05d0*/ \u05d0", 1, 5},
		{"\"\\\u05d0\" \u05d0", 0, 2},
		{"\u05d0 \"\\\u05d0\"", 0, 0},
		{"\"\\\\\\\u05d0\"", 0, 4},
		{"\"\u05d0\\\u05d1", 0, 4},
		{"\"\\\u05d0\\\u05d1\"", 0, 2},
		{"\"\\a\\\u200e\u202e\"", 0, 4},
		{"\"\\\"\\\u202e\"", 0, 4},
		{"//\u05d0\n\"\\\u202e\"", 1, 2},
		{"\"\u05d0\\\\\"\u05d0", 0, 6},
		{"\"\u202e\" \"\\\u05d0\"", 0, 8},
		{"\"\\\u00e4\\\u202e", 0, 5},
	})
}

func TestSanitizeHasTheErrorsOfSafe(t *testing.T) {
	rep := strings.Repeat
	for _, text := range []string{
		rep("a", 601),
		rep("\xff", 601),
		"\u202e\n" + rep("a", 598),
		"\xff",
		"\u202e\n\u05d0\xff",
		"\"\u202e\"\n\xe2\x80",
		rep("a", 301),
		"\u202e\n\n" + rep("a", 301),
		rep("a", 301) + "\n\xff",
		rep("\u05d0", 299) + "aa",
	} {
		got, edits, fault := plain.Sanitize(text)
		_, want := plain.Safe(text)
		if got != "" || edits != nil || want.E == 0 || fault != want {
			t.Errorf("P7: Sanitize(%.20q..): %+q, %v, %v, want %v", text, got, edits, fault, want)
		}
	}
	if _, _, fault := plain.Sanitize("\u202e\n" + rep("a", 301)); fault != (plain.Fault{E: 1, Line: 1, At: 0}) {
		t.Errorf("P7: a long line behind a hazard in code: %v", fault)
	}
}

// What is answered may be longer than what may be asked about.
func TestSanitizeUpToTheLimits(t *testing.T) {
	rep := strings.Repeat
	for _, c := range []struct{ text, want string }{
		{"\"" + rep("\u05d0", 298) + "\"", "\"" + rep(`\u05d0`, 298) + "\""},
		{"//" + rep("\u202e", 199), "//\u2068" + rep("<U+202E>", 199) + "\u2069"},
		{"//" + rep("\u05d0", 298), "//\u2068" + rep("\u05d0", 298) + "\u2069"},
		{rep("//\u05d0\n", 120), rep("//\u2068\u05d0\u2069\n", 120)},
		{rep("\"\u05d0\n", 150), rep("\"\\u05d0\n", 150)},
	} {
		got, edits, err := guard.Sanitize(c.text)
		if err != nil || got != c.want || guard.Apply(c.text, edits) != c.want {
			t.Errorf("P7: Sanitize(%.20q..) = %.40q.., %d edits, %v", c.text, got, len(edits), err)
		}
	}
}

var (
	hazards   = "\u05d0-\u05ea\u200f\u0627-\u064a\u061c\u0660-\u0669\u202a-\u202e\u2066-\u2069\u200e"
	hazard    = regexp.MustCompile("[" + hazards + "]")
	turn      = regexp.MustCompile("[\u202a-\u202e\u2066-\u2069]")
	inStrings = regexp.MustCompile(`\\?[` + hazards + `]|\\[^\n]`)
)

// wanted is what a text should be made, line by line, while none is met that can't be.
type wanted struct {
	text  strings.Builder
	edits []guard.Edit
	line  int
	start int // where the line begins
	stays int // where in it a hazard stays, or -1
}

func (w *wanted) edit(from, to int, written string) {
	w.edits = append(w.edits, guard.Edit{At: w.start + from, Cut: to - from, New: written})
}

func (w *wanted) code(line string, p guard.Part) {
	if found := hazard.FindStringIndex(line[p.From:p.To]); found != nil {
		w.stays = p.From + found[0]
	}
	w.text.WriteString(line[p.From:p.To])
}

func (w *wanted) quoted(line string, p guard.Part) {
	body := line[p.Body:p.End]
	for _, found := range inStrings.FindAllStringIndex(body, -1) {
		sign := body[found[0]:found[1]]
		switch {
		case sign[0] != '\\':
			w.edit(p.Body+found[0], p.Body+found[1], escaped(sign))
		case hazard.MatchString(sign) && w.stays < 0:
			w.stays = p.Body + found[0] + 1
		}
	}
	w.text.WriteString(line[p.From:p.Body] + hazard.ReplaceAllStringFunc(body, escaped) + line[p.End:p.To])
}

func (w *wanted) noted(line string, p guard.Part) {
	body := line[p.Body:p.End]
	if hazard.MatchString(body) {
		w.edit(p.Body, p.Body, "\u2068")
		for _, found := range turn.FindAllStringIndex(body, -1) {
			w.edit(p.Body+found[0], p.Body+found[1], numbered(body[found[0]:found[1]]))
		}
		w.edit(p.End, p.End, "\u2069")
		body = "\u2068" + turn.ReplaceAllStringFunc(body, numbered) + "\u2069"
	}
	w.text.WriteString(line[p.From:p.Body] + body + line[p.End:p.To])
}

func escaped(sign string) string { return fmt.Sprintf(`\u%04x`, []rune(sign)[0]) }

func numbered(sign string) string { return fmt.Sprintf("<U+%04X>", []rune(sign)[0]) }

// wantedOf is the document's sentences on Sanitize, word by word, for a text without the errors of Safe.
func wantedOf(text string, safe []bool) *wanted {
	w := &wanted{stays: -1}
	lines := strings.Split(text, "\n")
	parts := make([][]guard.Part, len(lines))
	for number, p := range guard.Parts(text) {
		parts[number] = append(parts[number], p)
	}
	for number, line := range lines {
		if w.line = number; number > 0 {
			w.text.WriteByte('\n')
		}
		if safe[number] {
			w.text.WriteString(line)
			parts[number] = nil
		}
		for _, p := range parts[number] {
			[]func(string, guard.Part){w.code, w.quoted, w.noted}[p.Kind](line, p)
			if w.stays >= 0 {
				return w
			}
		}
		w.start += len(line) + 1
	}
	return w
}

func TestSanitizeOfManyTexts(t *testing.T) {
	met := [3]int{}
	for _, text := range manyTexts() {
		got, edits, err := guard.Sanitize(text)
		safe, safeErr := guard.Safe(text)
		if safeErr != nil {
			if fmt.Sprint(err) != fmt.Sprint(safeErr) || got != "" || edits != nil {
				t.Fatalf("P7: of %+q: %+q, %v, %v, want %v", text, got, edits, err, safeErr)
			}
			continue
		}
		w := wantedOf(text, safe)
		switch {
		case w.stays >= 0:
			met[0]++
			checkHazardStays(t, []hazardCase{{text, w.line, w.stays}})
		case err != nil || got != w.text.String() || !slices.Equal(edits, w.edits):
			t.Fatalf("P7: Sanitize(%+q) = %+q, %s, %v, want %+q, %s", text, got, tellEdits(edits), err, w.text.String(), tellEdits(w.edits))
		case len(edits) == 0:
			met[1]++
		default:
			met[2]++
			checkOutcome(t, text, got, edits)
		}
	}
	if slices.Min(met[:]) < 500 {
		t.Errorf("too few texts of a kind: %v", met)
	}
}

// checkOutcome: P8 and P9, of a text that was written anew.
func checkOutcome(t *testing.T, text, got string, edits []guard.Edit) {
	t.Helper()
	if made := guard.Apply(text, edits); made != got {
		t.Errorf("P8: Apply(%+q, %s) = %+q, want %+q", text, tellEdits(edits), made, got)
	}
	if _, err := guard.Safe(got); err == nil {
		checkSafeForGood(t, got)
	} else if !errors.Is(err, guard.ErrLong) {
		t.Errorf("P9: Safe(%+q): %v", got, err)
	}
}

func TestEditsAreNew(t *testing.T) {
	text := "\"\u05d0\" //\u202e"
	_, first, err := guard.Sanitize(text)
	if err != nil || len(first) != 4 {
		t.Fatalf("P7: %v, %v", first, err)
	}
	kept := slices.Clone(first)
	for i := range first {
		first[i] = guard.Edit{At: 99}
	}
	if _, again, err := guard.Sanitize(text); err != nil || !slices.Equal(again, kept) {
		t.Errorf("P1: asked again: %v, %v, want %v", again, err, kept)
	}
}
