package guard_test

import (
	"fmt"
	"regexp"
	"strings"
	"testing"

	"bidiguard/guard"
	"bidiguard/plain"
)

// tellPart is a part in few words; of code the body is not told, as it is nowhere.
func tellPart(line int, p guard.Part) string {
	s := fmt.Sprintf("%d:%s %d-%d", line, []string{"code", "string", "comment"}[p.Kind], p.From, p.To)
	if p.Kind != 0 {
		s += fmt.Sprintf(" (%d-%d)", p.Body, p.End)
	}
	return s
}

func tellParts(text string) string {
	var all []string
	for line, p := range guard.Parts(text) {
		all = append(all, tellPart(line, p))
	}
	return strings.Join(all, ", ")
}

type partsCase struct{ text, want string }

func checkParts(t *testing.T, cases []partsCase) {
	t.Helper()
	for _, c := range cases {
		if got := tellParts(c.text); got != c.want {
			t.Errorf("P5: Parts(%+q): %s, want %s", c.text, got, c.want)
		}
	}
}

func TestPartsOfTheExamples(t *testing.T) {
	checkParts(t, []partsCase{
		{"x=\"s\";", "0:code 0-2, 0:string 2-5 (3-4), 0:code 5-6"},
		{"/* a\nb */c", "0:comment 0-4 (2-4), 1:comment 0-4 (0-2), 1:code 4-5"},
	})
}

func TestPartsOfCode(t *testing.T) {
	checkParts(t, []partsCase{
		{"", ""},
		{"\n", ""},
		{"a", "0:code 0-1"},
		{" ", "0:code 0-1"},
		{"\na\n\nbc\n", "1:code 0-1, 3:code 0-2"},
		{"a\r\nb", "0:code 0-2, 1:code 0-1"},
		{"a/b*/c\\", "0:code 0-7"},
		{"/", "0:code 0-1"},
		{"*/", "0:code 0-2"},
		{"/\n/", "0:code 0-1, 1:code 0-1"},
		{"/\n*", "0:code 0-1, 1:code 0-1"},
		{"/ /", "0:code 0-3"},
		{"\u05d0\u202e", "0:code 0-5"},
		{"'a`b'", "0:code 0-5"},
	})
}

func TestPartsOfStrings(t *testing.T) {
	checkParts(t, []partsCase{
		{"\"", "0:string 0-1 (1-1)"},
		{"\"\"", "0:string 0-2 (1-1)"},
		{"\"\"\"\"", "0:string 0-2 (1-1), 0:string 2-4 (3-3)"},
		{"\"ab\"", "0:string 0-4 (1-3)"},
		{"\"ab", "0:string 0-3 (1-3)"},
		{"\"ab\ncd\"", "0:string 0-3 (1-3), 1:code 0-2, 1:string 2-3 (3-3)"},
		{"\"\n\n\"", "0:string 0-1 (1-1), 2:string 0-1 (1-1)"},
		{"\"\\\"\"a", "0:string 0-4 (1-3), 0:code 4-5"},
		{"\"\\\\\"a", "0:string 0-4 (1-3), 0:code 4-5"},
		{"\"\\\\\\\"\"a", "0:string 0-6 (1-5), 0:code 6-7"},
		{"\"\\a\"b", "0:string 0-4 (1-3), 0:code 4-5"},
		{"\"\\", "0:string 0-2 (1-2)"},
		{"\"\\\"", "0:string 0-3 (1-3)"},
		{"\"\\\n\"a", "0:string 0-2 (1-2), 1:string 0-2 (1-2)"},
		{"\"\\\\\na", "0:string 0-3 (1-3), 1:code 0-1"},
		{"\"\\\r\n\"", "0:string 0-3 (1-3), 1:string 0-1 (1-1)"},
		{"\\\"a\"", "0:code 0-1, 0:string 1-4 (2-3)"},
		{"'\"'", "0:code 0-1, 0:string 1-3 (2-3)"},
		{"\"//\"", "0:string 0-4 (1-3)"},
		{"\"/*\"*/", "0:string 0-4 (1-3), 0:code 4-6"},
		{"\"\u05d0\u202e\"", "0:string 0-7 (1-6)"},
		{"\"\\\u05d0\"a", "0:string 0-5 (1-4), 0:code 5-6"},
	})
}

func TestPartsOfComments(t *testing.T) {
	checkParts(t, []partsCase{
		{"//", "0:comment 0-2 (2-2)"},
		{"///", "0:comment 0-3 (2-3)"},
		{"//a\\\nb", "0:comment 0-4 (2-4), 1:code 0-1"},
		{"//*\n*/", "0:comment 0-3 (2-3), 1:code 0-2"},
		{"//\"\"//", "0:comment 0-6 (2-6)"},
		{"/*", "0:comment 0-2 (2-2)"},
		{"/**", "0:comment 0-3 (2-3)"},
		{"/*/", "0:comment 0-3 (2-3)"},
		{"/**/", "0:comment 0-4 (2-2)"},
		{"/*/*/", "0:comment 0-5 (2-3)"},
		{"/***/", "0:comment 0-5 (2-3)"},
		{"/**//", "0:comment 0-4 (2-2), 0:code 4-5"},
		{"/**///", "0:comment 0-4 (2-2), 0:comment 4-6 (6-6)"},
		{"/**//**/", "0:comment 0-4 (2-2), 0:comment 4-8 (6-6)"},
		{"/*\n", "0:comment 0-2 (2-2)"},
		{"/*\n*/", "0:comment 0-2 (2-2), 1:comment 0-2 (0-0)"},
		{"/*\n/*/", "0:comment 0-2 (2-2), 1:comment 0-3 (0-1)"},
		{"/**\n/", "0:comment 0-3 (2-3), 1:comment 0-1 (0-1)"},
		{"/*a\n\nb", "0:comment 0-3 (2-3), 2:comment 0-1 (0-1)"},
		{"/*//\"\n\\*/\"a\"", "0:comment 0-5 (2-5), 1:comment 0-3 (0-1), 1:string 3-6 (4-5)"},
		{"/*a*/b/*c*/", "0:comment 0-5 (2-3), 0:code 5-6, 0:comment 6-11 (8-9)"},
	})
}

func TestPartsOfBytes(t *testing.T) {
	checkParts(t, []partsCase{
		{"\xff", "0:code 0-1"},
		{"\x00\n\x80", "0:code 0-1, 1:code 0-1"},
		{"\"\xff\"", "0:string 0-3 (1-2)"},
		{"\"\\\xff\"", "0:string 0-4 (1-3)"},
		{"\"\\\xe2\"a", "0:string 0-4 (1-3), 0:code 4-5"},
		{"//\xe2\x80\n\xa8", "0:comment 0-4 (2-4), 1:code 0-1"},
		{"/*\xfe*/", "0:comment 0-5 (2-3)"},
	})
}

func TestBodyOfCodeIsEmpty(t *testing.T) {
	for _, p := range guard.Parts("a\"b\"c//d") {
		if p.Kind == 0 && (p.Body != 0 || p.End != 0) {
			t.Errorf("P5: code with a body: %+v", p)
		}
	}
}

func TestPartsOfALongText(t *testing.T) {
	rep := strings.Repeat
	for _, c := range []struct {
		text string
		want int
	}{
		{rep("a", 600), 1},
		{rep("a", 601), 0},
		{rep("\u05d0", 300), 1},
		{rep("\u05d0", 300) + "a", 0},
		{rep("a\n", 300), 300},
		{rep("a\n", 300) + "a", 0},
		{rep("\"\"", 300), 300},
		{rep("\"\n", 300), 300},
		{rep("\n", 600), 0},
		{rep("a\"\"", 200), 400},
		{rep("\xff", 600), 1},
		{rep("\xff", 601), 0},
		{"/*" + rep("\n", 598), 1},
		{"/*" + rep("a\n", 299), 299},
	} {
		n := 0
		for range guard.Parts(c.text) {
			n++
		}
		if n != c.want {
			t.Errorf("P5: of %.9q.. (%d bytes): %d parts, want %d", c.text, len(c.text), n, c.want)
		}
	}
}

func TestPartsLeftEarly(t *testing.T) {
	text := "a\"b\"/*c\nd*/e\n\"f"
	_, all := plain.Parts(text, 0)
	if len(all) != 6 {
		t.Fatalf("P5: %d parts", len(all))
	}
	for n := 1; n <= 7; n++ {
		lines, got := plain.Parts(text, n)
		if len(got) != min(n, 6) || len(lines) != len(got) {
			t.Errorf("P5: left behind %d: %v", n, got)
		}
		for i, p := range got {
			if p != all[i] {
				t.Errorf("P5: left behind %d: at %d %+v, want %+v", n, i, p, all[i])
			}
		}
	}
}

func TestPartsAgain(t *testing.T) {
	parts := guard.Parts("a\"b\"\n//c")
	want := "[0:code 0-1 0:string 1-4 (2-3) 1:comment 0-3 (2-3)]"
	for range 2 {
		var outer []string
		for line, p := range parts {
			outer = append(outer, tellPart(line, p))
			var inner []string
			for line, p := range parts {
				inner = append(inner, tellPart(line, p))
			}
			if fmt.Sprint(inner) != want {
				t.Errorf("P5: within a loop: %v", inner)
			}
		}
		if fmt.Sprint(outer) != want {
			t.Errorf("P5: %v, want %s", outer, want)
		}
	}
}

func TestPartsWithoutALoop(t *testing.T) {
	for _, text := range []string{"", "a\"b\"//c", strings.Repeat("a", 601)} {
		guard.Parts(text)(nil)
	}
}

func TestPanicOfALoop(t *testing.T) {
	text := "a\"b\"c"
	met := 0
	func() {
		defer func() {
			if recover() != "enough" {
				t.Errorf("P1: the loop's panic is gone")
			}
		}()
		for range guard.Parts(text) {
			met++
			panic("enough")
		}
	}()
	if met != 1 || tellParts(text) != "0:code 0-1, 0:string 1-4 (2-3), 0:code 4-5" {
		t.Errorf("P5: met %d, then %s", met, tellParts(text))
	}
}

// tokens finds strings and comments another way than the program: groups are a string's body, and those of both kinds of comments.
var tokens = regexp.MustCompile(`"((?:\\[^\n]|[^"\\\n])*\\?)"?|//([^\n]*)|/\*((?s:.*?))(?:\*/|\z)`)

// foundParts are the parts as tokens finds them.
func foundParts(text string) string {
	var all []string
	add := func(kind, from, to, body, end int) {
		for from < to {
			start := strings.LastIndexByte(text[:from], '\n') + 1
			next := to
			if feed := strings.IndexByte(text[from:to], '\n'); feed >= 0 {
				next = from + feed
			}
			if from < next {
				p := guard.Part{Kind: kind, From: from - start, To: next - start, Body: max(from, body) - start, End: min(next, end) - start}
				all = append(all, tellPart(strings.Count(text[:from], "\n"), p))
			}
			from = next + 1
		}
	}
	last := 0
	for _, m := range tokens.FindAllStringSubmatchIndex(text, -1) {
		add(0, last, m[0], 0, 0)
		for group := 1; group <= 3; group++ {
			if m[2*group] >= 0 {
				add(min(group, 2), m[0], m[1], m[2*group], m[2*group+1])
			}
		}
		last = m[1]
	}
	add(0, last, len(text), 0, 0)
	return strings.Join(all, ", ")
}

func TestPartsOfManyTexts(t *testing.T) {
	signs := []string{"\"", "\\", "/", "*", "\n", "a", "\u05d0", "\xff"}
	var walk func(text string, left int)
	walk = func(text string, left int) {
		if got, want := tellParts(text), foundParts(text); got != want {
			t.Fatalf("P5: Parts(%+q): %s, want %s", text, got, want)
		}
		if left > 0 {
			for _, s := range signs {
				walk(text+s, left-1)
			}
		}
	}
	walk("", 5)
	for _, text := range manyTexts() {
		if got, want := tellParts(text), foundParts(text); len(text) <= 600 && got != want {
			t.Fatalf("P5: Parts(%+q): %s, want %s", text, got, want)
		}
	}
}
