package parts

import (
	"slices"
	"testing"
)

type told struct {
	line int
	part Part
}

// read is what Read tells, if no more than that many are wanted (0: all).
func read(text string, wanted int) []told {
	var all []told
	Read(text, func(line int, part Part) bool {
		all = append(all, told{line, part})
		return len(all) != wanted
	})
	return all
}

func TestRead(t *testing.T) {
	for _, c := range []struct {
		text string
		want []told
	}{
		{"", nil},
		{"\n\n", nil},
		{"a", []told{{0, Part{Code, 0, 1, 0, 0}}}},
		{"ab\"c\"d", []told{{0, Part{Code, 0, 2, 0, 0}}, {0, Part{String, 2, 5, 3, 4}}, {0, Part{Code, 5, 6, 0, 0}}}},
		{"\"a\n\"", []told{{0, Part{String, 0, 2, 1, 2}}, {1, Part{String, 0, 1, 1, 1}}}},
		{"a//b\n/**/", []told{{0, Part{Code, 0, 1, 0, 0}}, {0, Part{Comment, 1, 4, 3, 4}}, {1, Part{Comment, 0, 4, 2, 2}}}},
		{"/*a\n\nb\n*/c", []told{{0, Part{Comment, 0, 3, 2, 3}}, {2, Part{Comment, 0, 1, 0, 1}}, {3, Part{Comment, 0, 2, 0, 0}}, {3, Part{Code, 2, 3, 0, 0}}}},
	} {
		for wanted := range len(c.want) + 2 {
			want := c.want
			if wanted > 0 && wanted < len(want) {
				want = want[:wanted]
			}
			if got := read(c.text, wanted); !slices.Equal(got, want) {
				t.Errorf("Read(%q), %d wanted: %v, want %v", c.text, wanted, got, want)
			}
		}
	}
}

func TestSign(t *testing.T) {
	r := reader{text: "/*"}
	if got := r.sign(); got != blockBegins {
		t.Errorf("the first sign: %v", got)
	}
	r.at = 1
	if got := r.sign(); got != (sign{'*', '\n'}) {
		t.Errorf("the last sign: %v", got)
	}
}
