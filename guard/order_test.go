package guard_test

import (
	"strings"
	"testing"

	"bidiguard/guard"
)

func TestOrder(t *testing.T) {
	for _, c := range []levelCase{
		{"", 2, ""},
		{"", 1, ""},
		{"abc", 0, "0 1 2"},
		{"abc", 1, "0 1 2"},
		{"a \u05d0\u05d1 b", 2, "0 1 3 2 4 5"},
		{"\u05d0 12", 2, "2 3 1 0"},
		{"a!", 1, "1 0"},
		{"\u05d0\u05d1", 0, "1 0"},
		{"\u05d0 ", 0, "0 1"},
		{"\u05d0 ", 1, "1 0"},
		{"\u05d0ab\u05d1", 0, "0 1 2 3"},
		{"\u05d0ab\u05d1", 1, "3 1 2 0"},
		{"\u05d0ab\u05d1", -7, "3 1 2 0"},
		{"a\u05d0\u05d1b\u05d2\u05d3c", 0, "0 2 1 3 5 4 6"},
		{"a\u2067\u05d012\u2066b\u05d1\u05d2\u2069\u05d3\u2069c", 0, "0 1 10 9 6 8 7 5 3 4 2 11 12"},
		{"\u202a\u05d0\u05d1a\u202c", 0, "0 2 1 3 4"},
		{"\u202aab\u202c\u05d0", 1, "4 1 2 3 0"},
	} {
		got, err := guard.Order(c.line, c.direction)
		if err != nil || told(got) != c.want {
			t.Errorf("P4: Order(%+q, %d) = %s, %v, want %s", c.line, c.direction, told(got), err, c.want)
		}
	}
}

func TestOrderOfALongLine(t *testing.T) {
	got, err := guard.Order(strings.Repeat("\u05d0", 300), 2)
	if err != nil || len(got) != 300 {
		t.Fatalf("P4: Order of 300 runes: %d places, %v", len(got), err)
	}
	for i, place := range got {
		if place != 299-i {
			t.Fatalf("P4: at %d stands %d", i, place)
		}
	}
}
