package guard_test

import (
	"fmt"
	"math"
	"strings"
	"testing"

	"bidiguard/guard"
)

type levelCase struct {
	line      string
	direction int
	want      string
}

func told(list []int) string { return strings.Trim(fmt.Sprint(list), "[]") }

// times is the number n, many times, as told would tell it.
func times(many int, n int) string {
	return strings.TrimSpace(strings.Repeat(fmt.Sprint(n, " "), many))
}

func checkLevels(t *testing.T, cases []levelCase) {
	t.Helper()
	for _, c := range cases {
		got, err := guard.Levels(c.line, c.direction)
		if err != nil || told(got) != c.want {
			t.Errorf("P3: Levels(%+q, %d) = %s, %v, want %s", c.line, c.direction, told(got), err, c.want)
		}
	}
}

func TestLevelsOfTheExamples(t *testing.T) {
	checkLevels(t, []levelCase{
		{"a \u05d0\u05d1 b", 2, "0 0 1 1 0 0"},
		{"\u05d0 12", 2, "1 1 2 2"},
		{"\u062712", 0, "1 2 2"},
		{"1++2", 1, "2 1 1 2"},
		{"\u05d0(a)", 0, "1 0 0 0"},
		{"a(\u05d0)", 1, "2 1 1 1"},
		{"a\u202eb1\u202cc", 0, "0 0 1 1 1 0"},
		{"a\u2067\u05d0 b", 0, "0 0 1 1 2"},
		{"\u2067\u202aa\u2069b", 0, "0 0 2 0 0"},
		{"\u2068\u05d0\u2069 a", 2, "0 1 0 0 0"},
	})
}

func TestParagraphLevel(t *testing.T) {
	checkLevels(t, []levelCase{
		{"", 2, ""},
		{"! ", 0, "0 0"},
		{"! ", 1, "1 1"},
		{"! ", 2, "0 0"},
		{"!\u0661\u05d0a", 2, "1 2 1 2"},
		{"!a\u05d0", 2, "0 0 1"},
		{"\u0627!", 2, "1 1"},
		{"\u200e\u05d0", 2, "0 1"},
		{"\u200fa", 2, "1 2"},
		{"\u061ca", 2, "1 2"},
		{"\u202b\u05d0", 2, "1 3"},
		{"\u202e\u202ca", 2, "0 0 0"},
		{"\u2067a\u2069\u05d0", 2, "1 4 1 1"},
		{"\u2068\u2066a\u2069a\u2069\u05d0", 2, "1 2 4 2 2 1 1"},
		{"\u2066a\u2069\u2069\u05d0", 2, "1 2 1 1 1"},
		{"\u2067\u05d0", 2, "0 1"},
		{"\u2066\u2067\u05d0\u2069\u05d0a", 2, "0 2 3 2 3 2"},
		{"\u2069\u05d0", 2, "1 1"},
	})
}

func TestDirections(t *testing.T) {
	for _, d := range []int{2, 3, -1, 4, 256, 257, math.MinInt, math.MaxInt} {
		checkLevels(t, []levelCase{{"\u05d0 a", d, "1 1 2"}, {"a \u05d0", d, "0 0 1"}, {"!", d, "0"}})
	}
	checkLevels(t, []levelCase{{"\u05d0 a", 0, "1 0 0"}, {"a \u05d0", 1, "2 1 1"}})
}

func TestEmbeddings(t *testing.T) {
	checkLevels(t, []levelCase{
		{"a\u202b!\u202c!b", 0, "0 0 1 1 0 0"},
		{"\u05d0\u202a!\u202c!\u05d0", 1, "1 1 2 2 1 1"},
		{"a\u202a!\u05d0\u202c", 0, "0 0 2 3 0"},
		{"a\u202d\u05d01\u0661\u202cb", 0, "0 0 2 2 2 2 0"},
		{"a\u202eb1\u0661!\u202cb", 0, "0 0 1 1 1 1 1 0"},
		{"\u202e\u202aa\u05d0\u202cb", 0, "0 0 2 3 3 1"},
		{"\u202ca", 0, "0 0"},
		{"\u202b\u202c\u202ca!", 1, "1 1 1 2 1"},
		{"\u202b\u202a\u202c!\u202c!", 0, "0 0 0 1 1 0"},
		{"\u202e\u00ada\u200b\u202cb", 0, "0 0 1 1 1 0"},
	})
}

func TestIsolates(t *testing.T) {
	checkLevels(t, []levelCase{
		{"a\u2067!b\u2069c", 0, "0 0 1 2 0 0"},
		{"\u05d0\u2066!\u2069\u05d0", 1, "1 1 2 1 1"},
		{"a\u2066\u05d0\u2069", 0, "0 0 3 0"},
		{"a\u202e\u2067b\u2069\u202cc", 0, "0 0 1 4 1 1 0"},
		{"a\u202d\u2067\u05d0\u2069\u05d0", 0, "0 0 2 3 2 2"},
		{"\u202b\u2066\u202c!\u2069!b", 0, "0 1 1 2 1 1 2"},
		{"\u2067\u202a\u202d!\u2069!b", 0, "0 0 0 4 0 0 0"},
		{"\u2067\u202a\u202d!\u2069\u202b!\u05d0", 0, "0 0 0 4 0 0 1 1"},
		{"a\u2067!", 0, "0 0 1"},
		{"\u2069\u202b\u2069a", 0, "0 0 1 2"},
		{"\u2067\u2067!\u2069!\u2069!a", 0, "0 1 3 1 1 0 0 0"},
	})
}

func TestFirstStrongIsolates(t *testing.T) {
	checkLevels(t, []levelCase{
		{"a\u2068!\u05d0\u2069a", 0, "0 0 1 1 0 0"},
		{"a\u2068!\u0627a\u2069a", 0, "0 0 1 1 2 0 0"},
		{"a\u2068!\u2069\u05d0", 0, "0 0 2 0 1"},
		{"\u05d0\u2068!a\u05d0\u2069", 1, "1 1 2 2 3 1"},
		{"a\u2068\u2067\u05d0\u2069!b\u2069c", 0, "0 0 2 3 2 2 2 0 0"},
		{"a\u2068\u2066b\u2069!\u05d0\u2069c", 0, "0 0 1 2 1 1 1 0 0"},
		{"a\u2068!\u05d0", 0, "0 0 1 1"},
		{"a\u2068\u2066\u05d0!", 0, "0 0 2 5 4"},
	})
}

// deep leads to level 124; its runes are taken out.
func deep() string { return strings.Repeat("\u202b\u202a", 62) }

func TestOverflow(t *testing.T) {
	zeros := times(124, 0)
	checkLevels(t, []levelCase{
		{deep() + "!\u05d0", 0, zeros + " 124 125"},
		{deep() + "\u202a!a", 0, zeros + " 0 124 124"},
		{deep() + "\u202b!a", 0, zeros + " 0 125 126"},
		{deep() + "\u202b\u202b\u202b!\u202c!\u202c!\u202c!a", 0, zeros + " 0 0 0 125 125 125 125 125 125 124 124"},
		{deep() + "\u202a\u202b!a", 0, zeros + " 0 0 124 124"},
		{deep() + "\u2067!a", 0, zeros + " 124 125 126"},
		{deep() + "\u2066!\u2069!a", 0, zeros + " 124 124 124 124 124"},
		{deep() + "\u2066\u2067!\u2069!\u2069\u2067!\u2069a", 0, zeros + " 124 124 124 124 124 124 124 125 124 124"},
		{deep() + "\u2066\u202b\u2069\u202b!a", 0, zeros + " 124 124 124 124 125 126"},
		{deep() + "\u2066\u202c\u2069\u202b!a", 0, zeros + " 124 124 124 124 125 126"},
		{deep() + "\u2066\u202c\u2069\u202c!\u05d0", 0, zeros + " 124 124 124 124 123 123"},
		{deep() + "\u2067\u202b\u2069\u202b!a", 0, zeros + " 124 124 124 124 125 126"},
		{deep() + "\u202a\u2067\u2069\u202c\u202b!a", 0, zeros + " 0 124 124 124 124 125 126"},
	})
	checkLevels(t, []levelCase{
		{strings.Repeat("\u2067\u2066", 62) + "\u2067\u2067a", 0, countUp(124) + " 124 125 126"},
		{strings.Repeat("\u202a", 62) + "!\u05d0", 0, times(62, 0) + " 124 125"},
		{strings.Repeat("\u202a", 63) + "!\u05d0", 0, times(63, 0) + " 124 125"},
		{strings.Repeat("\u202b", 63) + "!a", 0, times(63, 0) + " 125 126"},
		{strings.Repeat("\u202b", 64) + "!a\u202c!", 0, times(64, 0) + " 125 126 126 125"},
	})
}

// countUp is the numbers from 0 to below n.
func countUp(n int) string {
	list := make([]int, n)
	for i := range list {
		list[i] = i
	}
	return told(list)
}

func TestRuns(t *testing.T) {
	checkLevels(t, []levelCase{
		// What is taken out does not part a run.
		{"1\u00ad+\u202a\u202c2", 1, "2 2 2 2 2 2"},
		{"\u05d0\u202b\u202c!\u200b\u05d1", 0, "1 1 1 1 1 1"},
		// What an isolate holds is no neighbour of what stands around it.
		{"a\u2066\u05d0\u20691", 1, "2 2 3 2 2"},
		{"\u05d0\u2067a\u2069!\u05d1", 0, "1 1 2 1 1 1"},
		{"a(\u2067\u05d0\u2069)\u05d0", 0, "0 0 0 1 0 0 1"},
		{"\u05d0\u2066a\u2069\u2067a\u2069!\u05d0", 0, "1 1 2 1 1 2 1 1 1"},
		{"\u05d0\u2067a\u2069\u202b\u05d0", 0, "1 1 2 1 1 1"},
		// sos and eos are those of the greater level on either side.
		{"\u202b\u05d0\u202c!\u202b\u05d0\u202c", 0, "0 1 1 1 1 1 0"},
		{"\u202b!\u202a!\u202c1\u202c", 0, "0 1 1 2 2 2 0"},
		{"a\u202b1\u202cb", 0, "0 0 2 2 0"},
		{"a!\u202b!\u202c", 0, "0 0 0 1 0"},
		{"a!\u2067b", 1, "2 1 1 4"},
		{"\u202b\u202c!\u05d0", 0, "0 0 0 1"},
		{"\u05d0!\u202b\u202c", 0, "1 0 0 0"},
		{"\u05d0!\u202b\u202e\u202c\u202ca", 0, "1 0 0 0 0 0 0"},
		// Behind an isolate that nothing closes stands the paragraph level.
		{"\u05d0!\u2067\u05d0", 0, "1 0 0 1"},
		{"\u202a\u05d0!\u2067\u05d0", 1, "1 3 2 2 3"},
	})
}

func TestWeak(t *testing.T) {
	checkLevels(t, []levelCase{
		// W1
		{"\u0300", 0, "0"},
		{"\u0300", 1, "1"},
		{"a\u202b\u0300\u202cb", 0, "0 0 1 1 0"},
		{"a\u0300\u0300", 1, "2 2 2"},
		{"1\u0300", 1, "2 2"},
		{"\u0661\u064b", 0, "2 2"},
		{"1+\u03002", 1, "2 1 1 2"},
		{"\u05d0!\u0300\u05d0", 0, "1 1 1 1"},
		{"a\u2069\u0300\u05d0", 1, "2 1 1 1"},
		{"\u05d0\u2067\u0300\u05d0\u2069\u0300\u05d0", 0, "1 1 1 1 1 1 1"},
		// W2
		{"\u0627!1+2", 1, "1 1 2 1 2"},
		{"\u06271,2", 0, "1 2 2 2"},
		{"\u0627\u03001+2", 1, "1 1 2 1 2"},
		{"\u0627\u05d01+2", 1, "1 1 2 2 2"},
		{"\u0627a1+2", 1, "1 2 2 2 2"},
		{"1\u0627", 0, "0 1"},
		{"\u0627\u20671\u2069!1+2", 1, "1 1 4 1 1 2 1 2"},
		// W3
		{"\u0627!\u05d0", 0, "1 1 1"},
		// W4
		{"1+2", 1, "2 2 2"},
		{"\u05d01+2", 0, "1 2 2 2"},
		{"\u05d01,2", 0, "1 2 2 2"},
		{"1,2", 1, "2 2 2"},
		{"1,2,3-4", 1, "2 2 2 2 2 2 2"},
		{"1,,2", 1, "2 1 1 2"},
		{"1+,2", 1, "2 1 1 2"},
		{"\u0661,\u0661", 1, "2 2 2"},
		{"\u0661+\u0661", 1, "2 1 2"},
		{"1,\u0661", 1, "2 1 2"},
		{"\u0661,1", 1, "2 1 2"},
		{"+1", 1, "1 2"},
		{"1+", 1, "2 1"},
		{"1+a", 1, "2 1 2"},
		// W5
		{"$1", 1, "2 2"},
		{"\u05d0$1", 0, "1 2 2"},
		{"\u05d01$", 0, "1 2 2"},
		{"$#%1", 1, "2 2 2 2"},
		{"1$#%", 1, "2 2 2 2"},
		{"$!1", 1, "1 1 2"},
		{"$+1", 1, "1 1 2"},
		{"$\u0661$", 1, "1 2 1"},
		{"\u06271$", 1, "1 2 1"},
		{"1,$2", 1, "2 1 2 2"},
		// W6
		{"\u05d0+\u05d0", 0, "1 1 1"},
		{"\u05d0$\u05d0", 0, "1 1 1"},
		{"\u05d0,\u05d0", 0, "1 1 1"},
		{"\u05d0,a", 0, "1 0 0"},
		// W7
		{"a!1", 1, "2 2 2"},
		{"1", 0, "0"},
		{"1", 1, "2"},
		{"\u05d0!1", 0, "1 1 2"},
		{"a\u05d01", 0, "0 1 2"},
		{"\u05d0a1", 0, "1 0 0"},
		{"a\u06611", 1, "2 2 2"},
	})
}

func TestBrackets(t *testing.T) {
	checkLevels(t, []levelCase{
		// Within stands what goes with the level.
		{"\u05d0(a)\u05d0", 0, "1 0 0 0 1"},
		{"a(\u05d0)a", 1, "2 1 1 1 2"},
		{"\u05d0(\u05d0a)\u05d0", 0, "1 0 1 0 0 1"},
		{"a(1)a", 1, "2 2 2 2 2"},
		{"a(\u0661)a", 1, "2 1 2 1 2"},
		// Within stands the other direction alone.
		{"\u05d0(\u05d1)a", 0, "1 1 1 1 0"},
		{"\u05d0(\u05d1!)a", 0, "1 1 1 1 1 0"},
		{"\u05d0!(\u05d1)a", 0, "1 1 1 1 1 0"},
		{"a(\u05d1)\u05d0", 0, "0 0 1 0 1"},
		{"(\u05d1)\u05d0", 0, "0 1 0 1"},
		{"a(b)\u05d0", 1, "2 2 2 2 1"},
		{"\u05d0(b)a", 1, "1 1 2 1 2"},
		{"(b)a", 1, "1 2 1 2"},
		{"\u0661(1)a", 0, "2 0 0 0 0"},
		{"\u05d0(1)a", 0, "1 1 2 1 0"},
		{"\u0661(\u0661)a", 0, "2 1 2 1 0"},
		{"\u202a\u05d0\u202c(\u05d0)a", 0, "0 3 3 0 1 0 0"},
		{"\u202b\u05d0\u202c(\u05d0)a", 0, "0 1 1 1 1 1 0"},
		// Within stands nothing strong.
		{"\u05d0(!)\u05d0", 0, "1 1 1 1 1"},
		{"\u05d0(!)a", 0, "1 0 0 0 0"},
		{"\u05d0()\u05d0", 0, "1 1 1 1"},
		// Which closes which.
		{"a(b]\u05d0", 1, "2 2 2 1 1"},
		{"\u05d0[a]a", 1, "1 1 2 1 2"},
		{"\u05d0{a}a", 1, "1 1 2 1 2"},
		{"\u05d0<a>a", 1, "1 1 2 2 2"},
		{"\u05d0\u3008a\u3009a", 1, "1 1 2 1 2"},
		{"\u05d0\u2329a\u232aa", 1, "1 1 2 1 2"},
		{"\u05d0\u2329a\u3009a", 1, "1 1 2 1 2"},
		{"\u05d0\u3008a\u232aa", 1, "1 1 2 1 2"},
		{"\u05d0\u3008a)a", 1, "1 1 2 2 2"},
		{"\u05d0)a(a", 1, "1 1 2 2 2"},
		{"\u05d0(a]a)a", 1, "1 1 2 2 2 1 2"},
		{"\u05d0(a[a)a]a", 1, "1 1 2 2 2 1 2 2 2"},
		{"\u05d0(a(a)a", 1, "1 1 2 2 2 2 2"},
		// Brackets that have become strong count for the pairs behind.
		{"\u05d0(\u05d1[\u05d2]a)", 0, "1 0 1 1 1 1 0 0"},
		{"\u05d0(a)[\u05d1]a", 0, "1 0 0 0 0 1 0 0"},
		{"\u05d0(\u05d1)[\u05d1]a", 0, "1 1 1 1 1 1 1 0"},
		{"a((\u05d1)a)", 1, "2 1 1 1 1 2 1"},
		{"\u05d0(a[\u05d0]\u05d0)\u05d0", 0, "1 0 0 0 1 0 1 0 1"},
		// Brackets that an override has turned are none.
		{"\u202b\u05d0\u202c\u202e(\u202c\u202ba)a\u202c", 0, "0 1 1 1 1 1 1 2 2 2 0"},
		{"\u202b\u05d0(a\u202c\u202e)\u202c\u202ba)a\u202c", 0, "0 1 1 2 2 2 1 1 1 2 1 2 0"},
		// An isolate's brackets do not close those around it.
		{"\u05d0(\u2067)\u2069a)a", 1, "1 1 1 3 1 2 1 2"},
		{"\u05d0(\u2067\u2069a)a", 1, "1 1 1 1 2 1 2"},
	})
}

func TestMarksUponBrackets(t *testing.T) {
	checkLevels(t, []levelCase{
		{"\u05d0(a)\u0300a", 1, "1 1 2 1 1 2"},
		{"\u05d0(\u0300a)a", 1, "1 1 1 2 1 2"},
		{"\u05d0(a)\u0300\u064b\u0300a", 1, "1 1 2 1 1 1 1 2"},
		{"\u05d0(a)!\u0300a", 1, "1 1 2 1 1 1 2"},
		{"\u05d0(\u05d1)\u0300a", 0, "1 1 1 1 1 0"},
		{"\u05d0(\u0300\u05d1)a", 0, "1 1 1 1 1 0"},
		{"a(\u0300b)\u0300\u05d0", 1, "2 2 2 2 2 2 1"},
		{"\u05d0(\u05d1)\u00ad\u0300a", 0, "1 1 1 1 1 1 0"},
		// Behind brackets that stay neutral marks are neutral.
		{"\u05d0(!)\u0300a", 0, "1 0 0 0 0 0"},
		// A mark that an override has turned is none any more.
		{"\u202ba(b)\u202c\u202e\u0300\u202ca", 0, "0 2 2 2 2 2 2 1 1 0"},
	})
}

func TestOpenBrackets(t *testing.T) {
	rep := strings.Repeat
	checkLevels(t, []levelCase{
		{"\u05d0" + rep("(", 63) + "a" + rep(")", 63) + "a", 1, times(64, 1) + " 2 " + times(63, 1) + " 2"},
		{"\u05d0" + rep("(", 64) + "a" + rep(")", 64) + "a", 1, times(65, 1) + " 2 " + times(64, 2) + " 2"},
		// Pairs that are ahead are none either, and one that is open too many is enough.
		{"\u05d0(a)a" + rep("(", 63) + "a", 1, "1 1 2 1 2 " + times(63, 2) + " 2"},
		{"\u05d0(a)a" + rep("(", 64) + "a", 1, "1 1 2 2 2 " + times(64, 2) + " 2"},
		// What is closed is not open.
		{"\u05d0" + rep("(a)", 70) + "a", 1, "1" + rep(" 1 2 1", 70) + " 2"},
		{"\u05d0" + rep("[", 62) + rep("(a)", 3) + "a", 1, times(63, 1) + rep(" 1 2 1", 3) + " 2"},
		// Another sequence has its own.
		{"\u05d0(a)a\u2067" + rep("(", 64) + "\u2069", 1, "1 1 2 1 2 1 " + times(64, 3) + " 1"},
	})
}

func TestNeutrals(t *testing.T) {
	checkLevels(t, []levelCase{
		// N1
		{"\u05d0 \u05d0", 0, "1 1 1"},
		{"\u05d0 !\u2003\u05d0", 0, "1 1 1 1 1"},
		{"a ! b", 1, "2 2 2 2 2"},
		{"\u05d0!\u0661", 0, "1 1 2"},
		{"\u0661!\u0661", 0, "2 1 2"},
		{"\u05d0!1", 0, "1 1 2"},
		{"\u05d01!\u05d0", 0, "1 2 1 1"},
		{"!a", 0, "0 0"},
		{"!\u05d0", 1, "1 1"},
		{"\u05d0!", 1, "1 1"},
		{"\u05d0\u2069!\u05d0", 0, "1 1 1 1"},
		{"\u05d0!\t!\u05d0", 0, "1 1 0 1 1"},
		// N2
		{"\u05d0!a", 0, "1 0 0"},
		{"a!\u05d0", 0, "0 0 1"},
		{"\u05d0!a", 1, "1 1 2"},
		{"a!\u05d0", 1, "2 1 1"},
		{"!\u05d0", 0, "0 1"},
		{"\u05d0!", 0, "1 0"},
		{"a!", 1, "2 1"},
		{"\u0661!", 0, "2 0"},
	})
}

func TestImplicitLevels(t *testing.T) {
	checkLevels(t, []levelCase{
		{"a\u05d0\u06611", 0, "0 1 2 2"},
		{"\u05d0a\u05d0\u06611", 1, "1 2 1 2 2"},
		{"\u202aa\u05d0\u06611\u202c", 0, "0 2 3 4 4 0"},
		{"\u202ba\u05d0\u06611\u202c", 1, "1 4 3 4 4 1"},
	})
}

func TestLastLevels(t *testing.T) {
	checkLevels(t, []levelCase{
		{"a\t\u05d0", 1, "2 1 1"},
		{"\u05d0\t\u05d0", 0, "1 0 1"},
		{"\u05d0 \u2003\t\u05d0", 0, "1 0 0 0 1"},
		{"\u05d0 ! \t\u05d0", 0, "1 1 1 0 0 1"},
		{"\u202b\u05d0 ", 0, "0 1 0"},
		{"\u202b\u05d0 \u2003\u2067\u2069 \u202c\u00ad ", 0, "0 1 0 0 0 0 0 0 0 0"},
		{"\u202b\u05d0 \u202a\u202c\t\u05d0", 0, "0 1 0 0 0 0 1"},
		{"\u202ba\u2066 \u2069\u2068", 0, "0 2 0 0 0 0"},
		{"a \u202d\u202e\u202a\u202b\u200b ", 1, "2 1 1 1 1 1 1 1"},
		{"\u202e ! ", 0, "0 1 1 0"},
		// By the table, not by an override.
		{"\u202d\u05d0\t ", 1, "1 2 1 1"},
		{"\u202e\u2067a\u2069 ", 0, "0 1 4 0 0"},
		// What is taken out goes with what is ahead of it, as that is in the end.
		{"\u202b\u202aa", 0, "0 0 2"},
		{"\u00ad\u05d0", 0, "0 1"},
		{"\u00ad\u05d0", 1, "1 1"},
		{"\u05d0\u00ad\u200b\u202aa", 0, "1 1 1 1 2"},
		{"\u05d0\u202c\u05d0", 0, "1 1 1"},
		{"\u202b\u05d0\t\u00ad\u05d0", 0, "0 1 0 0 1"},
		{"\u202b\u05d0\t\u202c\u202b\u05d0", 0, "0 1 0 0 0 1"},
		{"\u06611\u00ad\u05d0", 1, "2 2 2 1"},
	})
}
