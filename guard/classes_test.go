package guard_test

import (
	"errors"
	"slices"
	"strings"
	"testing"
	"unicode/utf8"

	"bidiguard/guard"
	"bidiguard/plain"
)

// rowsOfTheTable: the runes of each class but L, as the document's table tells them.
func rowsOfTheTable() map[rune]int {
	row := map[rune]int{}
	put := func(class int, runes string) {
		for _, r := range runes {
			row[r] = class
		}
	}
	span := func(class int, first, last rune) {
		for r := first; r <= last; r++ {
			row[r] = class
		}
	}
	span(1, 0x05D0, 0x05EA)
	put(1, "\u200f")
	span(2, 0x0627, 0x064A)
	put(2, "\u061c")
	put(3, "0123456789")
	put(4, "+-")
	put(5, "#$%\u20ac")
	span(6, 0x0660, 0x0669)
	put(7, ",./:")
	span(8, 0x0300, 0x036F)
	span(8, 0x064B, 0x0652)
	put(9, "\u00ad\u200b")
	put(10, "\t")
	put(11, " \u2003")
	put(12, "!\"&'()*;<=>?@[\\]^_`{|}~\u2329\u232a\u3008\u3009")
	for i, r := range []rune{0x202A, 0x202B, 0x202D, 0x202E, 0x202C, 0x2066, 0x2067, 0x2068, 0x2069} {
		row[r] = 13 + i
	}
	return row
}

func TestClassOfEveryRune(t *testing.T) {
	row := rowsOfTheTable()
	var runes []rune
	ask := func() {
		got, err := guard.Classes(string(runes))
		if err != nil || len(got) != len(runes) {
			t.Fatalf("P2: Classes of %U and those behind: %d classes, %v", runes[0], len(got), err)
		}
		for i, r := range runes {
			if got[i] != row[r] {
				t.Errorf("P2: the class of %U is %d, want %d", r, got[i], row[r])
			}
		}
		runes = runes[:0]
	}
	for r := rune(0); r <= utf8.MaxRune; r++ {
		if r != '\n' && utf8.ValidRune(r) {
			runes = append(runes, r)
		}
		if len(runes) == 150 {
			ask()
		}
	}
	ask()
}

func TestClassesOfALine(t *testing.T) {
	for _, c := range []struct {
		line string
		want []int
	}{
		{"", nil},
		{"a(\u05d01", []int{0, 12, 1, 3}},
		{"a\u202e\u05d0\u202c\t", []int{0, 16, 1, 17, 10}},
		{"\ufffd\x00\r", []int{0, 0, 0}},
		{"\U0001F600", []int{0}},
	} {
		if got, err := guard.Classes(c.line); err != nil || !slices.Equal(got, c.want) {
			t.Errorf("P2: Classes(%+q) = %v, %v, want %v", c.line, got, err, c.want)
		}
	}
}

// wrongLines: lines at the limits and beyond, and which error comes first.
func wrongLines() []struct {
	name, line string
	want       error
} {
	rep := strings.Repeat
	return []struct {
		name, line string
		want       error
	}{
		{"nothing", "", nil},
		{"300 runes", rep("a", 300), nil},
		{"300 runes of 600 bytes", rep("\u05d0", 300), nil},
		{"200 runes of 600 bytes", rep("\u2067", 200), nil},
		{"150 runes of 600 bytes", rep("\U0001F600", 150), nil},
		{"a replacement rune that was written", "a\ufffd", nil},
		{"a carriage return", "a\r", nil},
		{"301 runes", rep("a", 301), guard.ErrLong},
		{"600 runes", rep("a", 600), guard.ErrLong},
		{"601 bytes of 301 runes", rep("\u05d0", 300) + "a", guard.ErrLong},
		{"603 bytes of 201 runes", rep("\u2067", 201), guard.ErrLong},
		{"a line feed", "\n", guard.ErrText},
		{"a line feed at the end", "a\n", guard.ErrText},
		{"a line feed ahead", "\na", guard.ErrText},
		{"a byte of no rune", "a\xff", guard.ErrText},
		{"a byte that goes on from nothing", "\x80a", guard.ErrText},
		{"a rune cut off", "\u05d0"[:1], guard.ErrText},
		{"a surrogate", "\xed\xa0\x80", guard.ErrText},
		{"a rune written too long", "\xc0\xaf", guard.ErrText},
		{"a rune beyond the last", "\xf4\x90\x80\x80", guard.ErrText},
		{"600 bytes, 301 runes and more, no text", rep("a", 599) + "\xff", guard.ErrText},
		{"600 bytes, 301 runes and more, a line feed", rep("a", 599) + "\n", guard.ErrText},
		{"601 bytes, no text", rep("a", 600) + "\xff", guard.ErrLong},
		{"601 bytes, a line feed", "\n" + rep("\u2067", 200), guard.ErrLong},
	}
}

func TestErrorsOfALine(t *testing.T) {
	for _, c := range wrongLines() {
		classes, e1 := guard.Classes(c.line)
		if e1 != c.want || e1 != nil && classes != nil {
			t.Errorf("P2: Classes of %s: %v, %v, want %v", c.name, classes, e1, c.want)
		}
		for direction := -1; direction <= 3; direction++ {
			levels, e2 := guard.Levels(c.line, direction)
			if e2 != c.want || e2 != nil && levels != nil {
				t.Errorf("P3: Levels of %s: %v, %v, want %v", c.name, levels, e2, c.want)
			}
			order, e3 := guard.Order(c.line, direction)
			if e3 != c.want || e3 != nil && order != nil {
				t.Errorf("P4: Order of %s: %v, %v, want %v", c.name, order, e3, c.want)
			}
		}
	}
}

func TestPlainErrors(t *testing.T) {
	if !plain.Different() {
		t.Errorf("the errors are not different")
	}
	if l, f := plain.Levels("\xff", 0); l != nil || f != (plain.Fault{E: 2, Line: -1, At: -1}) {
		t.Errorf("an error that is no LineError: %v, %v", l, f)
	}
}

func TestLineError(t *testing.T) {
	var err error = &guard.LineError{Line: 3, At: 5, Err: guard.ErrCode}
	if !errors.Is(err, guard.ErrCode) || errors.Is(err, guard.ErrText) || errors.Is(err, guard.ErrLong) {
		t.Errorf("a LineError is not the error that it has")
	}
	if errors.Unwrap(err) != guard.ErrCode {
		t.Errorf("Unwrap = %v", errors.Unwrap(err))
	}
	var line *guard.LineError
	if !errors.As(err, &line) || line.Line != 3 || line.At != 5 {
		t.Errorf("errors.As = %v", line)
	}
	if want := "line 3, byte 5: " + guard.ErrCode.Error(); err.Error() != want {
		t.Errorf("Error = %q, want %q", err.Error(), want)
	}
}

func TestLineErrorOfNothing(t *testing.T) {
	for _, e := range []*guard.LineError{nil, {}} {
		if e.Unwrap() != nil || e.Error() == "" {
			t.Errorf("%q, %v", e.Error(), e.Unwrap())
		}
	}
}
