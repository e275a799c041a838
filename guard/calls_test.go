package guard_test

import (
	"slices"
	"strings"
	"sync"
	"testing"
	"unicode/utf8"

	"bidiguard/guard"
)

// alphabet has a rune of each class, and all brackets.
var alphabet = []rune{'a', 0x05D0, 0x0627, '1', '+', '$', 0x0661, ',', 0x0300, 0x00AD, '\t', ' ', '!', '(', ')', '[', ']', '{', '}', 0x2329, 0x232A, 0x3008, 0x3009, 0x202A, 0x202B, 0x202D, 0x202E, 0x202C, 0x2066, 0x2067, 0x2068, 0x2069}

// numbers are numbers below n without a plan, but the same ones each time.
func numbers() func(n int) int {
	state := uint32(1)
	return func(n int) int {
		state = state*1664525 + 1013904223
		return int(state>>8) % n
	}
}

// manyLines are lines without a plan, but the same ones at each call; some are no text.
func manyLines() []string {
	next := numbers()
	var lines []string
	for range 4000 {
		var line strings.Builder
		few := []rune{alphabet[next(len(alphabet))], alphabet[next(len(alphabet))], alphabet[next(len(alphabet))]}
		for range next(12) * next(26) {
			switch next(40) {
			case 0:
				line.WriteRune(alphabet[next(len(alphabet))])
			default:
				line.WriteRune(few[next(len(few))])
			}
		}
		if next(50) == 0 {
			line.WriteByte(byte(next(256)))
		}
		lines = append(lines, line.String())
	}
	return append(lines, strings.Repeat("\u2067", 200), strings.Repeat("\u202e", 200), strings.Repeat("(", 300), strings.Repeat("()", 150), strings.Repeat("\u2069", 200), strings.Repeat("\u202c", 200), strings.Repeat("\u2067\u2069", 100), strings.Repeat("\u0300", 300), strings.Repeat("\xff", 700))
}

// pieces: what parts begin and end with, what turns the direction, closed and not, and what may be turned.
var pieces = []string{
	"\"", "\"", "\"", "\\", "//", "/*", "*/", "*", "/", "\n", "\n",
	"a", "b = ", "x", " ", " ", "1", "12", "+", ",", ";", "(", ")", "\t", "\u0300", "\u00ad",
	"\u05d0", "\u05d1\u05d2", "\u0627", "\u0661", "\u200e", "\u200f",
	"\u2067\u05d0\u2069", "\u202eab\u202c", "\u2068\u05d0 1\u2069", "\u202a\u2066a\u2069\u202c",
	"\u202a", "\u202b", "\u202d", "\u202e", "\u202c", "\u2066", "\u2067", "\u2068", "\u2069",
}

// manyTexts are texts without a plan, but the same ones at each call; some are no text, some too long.
func manyTexts() []string {
	next := numbers()
	var texts []string
	for range 8000 {
		var text strings.Builder
		known := 30 + next(len(pieces)-29)
		for range next(5) * next(16) {
			text.WriteString(pieces[next(known)])
		}
		if next(100) == 0 {
			text.WriteByte(byte(next(256)))
		}
		if next(200) == 0 {
			text.WriteString(strings.Repeat(pieces[next(known)], 300))
		}
		texts = append(texts, text.String())
	}
	return texts
}

func TestAnswersHangTogether(t *testing.T) {
	for _, line := range manyLines() {
		for direction := range 3 {
			levels, err := guard.Levels(line, direction)
			order, orderErr := guard.Order(line, direction)
			if err != orderErr {
				t.Fatalf("P4: of %+q: %v and %v", line, err, orderErr)
			}
			if err != nil {
				if levels != nil || order != nil {
					t.Fatalf("P1: of %+q beside an error: %v, %v", line, levels, order)
				}
				continue
			}
			n := utf8.RuneCountInString(line)
			if len(levels) != n || len(order) != n {
				t.Fatalf("P3, P4: of %+q: %d levels, %d places", line, len(levels), len(order))
			}
			checkRange(t, line, levels, order)
		}
	}
}

func checkRange(t *testing.T, line string, levels, order []int) {
	t.Helper()
	for _, level := range levels {
		if level < 0 || level > 126 {
			t.Fatalf("P3: of %+q: a level %d", line, level)
		}
	}
	sorted := slices.Sorted(slices.Values(order))
	for i, place := range sorted {
		if i != place {
			t.Fatalf("P4: of %+q: not each place once: %v", line, order)
		}
	}
}

func TestListsAreNew(t *testing.T) {
	line := "a\u2067\u05d0(b)\u2069 1"
	ask := func() [3][]int {
		classes, e1 := guard.Classes(line)
		levels, e2 := guard.Levels(line, 2)
		order, e3 := guard.Order(line, 2)
		if e1 != nil || e2 != nil || e3 != nil {
			t.Fatalf("P1: %v, %v, %v", e1, e2, e3)
		}
		return [3][]int{classes, levels, order}
	}
	first := ask()
	var kept [3][]int
	for i, list := range first {
		kept[i] = slices.Clone(list)
	}
	for _, list := range first {
		for i := range list {
			list[i] = 99
		}
		_ = append(list[:0:cap(list)], make([]int, cap(list))...)
	}
	for i, list := range ask() {
		if !slices.Equal(list, kept[i]) {
			t.Errorf("P1: asked again: %v, want %v", list, kept[i])
		}
	}
}

func TestSafeIsNew(t *testing.T) {
	text := "a\n\u05d0\nb"
	first, err := guard.Safe(text)
	if err != nil {
		t.Fatalf("P1: %v", err)
	}
	for i := range first {
		first[i] = !first[i]
	}
	if again, err := guard.Safe(text); err != nil || tellSafe(again) != "yny" {
		t.Errorf("P1: asked again: %v, %v", again, err)
	}
}

func TestCallsAtOnce(t *testing.T) {
	lines := append(manyLines()[:200], manyTexts()[:200]...)
	ask := func() []string {
		var answers []string
		for _, line := range lines {
			classes, _ := guard.Classes(line)
			levels, _ := guard.Levels(line, 2)
			order, _ := guard.Order(line, 1)
			safe, _ := guard.Safe(line)
			made, edits, _ := guard.Sanitize(line)
			applied := guard.Apply(line, edits)
			answers = append(answers, told(classes)+"|"+told(levels)+"|"+told(order)+"|"+tellSafe(safe)+"|"+tellParts(line)+"|"+made+"|"+tellEdits(edits)+"|"+applied)
		}
		return answers
	}
	want := ask()
	var all sync.WaitGroup
	for range 8 {
		all.Go(func() {
			if !slices.Equal(ask(), want) {
				t.Errorf("P1: calls at the same time answer otherwise")
			}
		})
	}
	all.Wait()
}
