package guard

import (
	"strconv"
	"strings"
	"unicode/utf8"

	"bidiguard/bidi"
	"bidiguard/parts"
)

const (
	leftMark      = 0x200E // a hazard, though its class is L: it moves what stands beside it
	isolateBegins = "\u2068"
	isolateEnds   = "\u2069"
	nowhere       = -1
)

// editsOfText are the edits by which the lines that are not safe are written anew, or the error of the first hazard that none can do away with.
func editsOfText(text string, safe []bool) ([]Edit, error) {
	lines := strings.Split(text, "\n")
	starts := lineStarts(lines)
	var edits []Edit
	for number, part := range Parts(text) {
		if safe[number] {
			continue
		}
		line := lines[number]
		if at := fixedHazard(line, part); at != nowhere {
			return nil, &LineError{Line: number, At: at, Err: ErrCode}
		}
		for _, edit := range editsOfPart(line, part) {
			edit.At += starts[number]
			edits = append(edits, edit)
		}
	}
	return edits, nil
}

// lineStarts are the places in a text where its lines begin.
func lineStarts(lines []string) []int {
	starts := make([]int, len(lines))
	start := 0
	for number, line := range lines {
		starts[number] = start
		start += len(line) + len("\n")
	}
	return starts
}

// fixedHazard is the place of the first hazard of a part that has to stay as it is: code has no other way to write it.
func fixedHazard(line string, part Part) int {
	switch part.Kind {
	case parts.Code:
		return firstHazard(line, part.From, part.To)
	case parts.String:
		return escapedHazard(line, part.Body, part.End)
	}
	return nowhere
}

func firstHazard(line string, from, to int) int {
	for at, r := range line[from:to] {
		if isHazard(r) {
			return from + at
		}
	}
	return nowhere
}

// escapedHazard is the place of the first hazard that makes one sign with the `\` ahead of it: by its own escape there would be two of them.
func escapedHazard(line string, from, to int) int {
	escaped := false
	for at, r := range line[from:to] {
		if escaped && isHazard(r) {
			return from + at
		}
		escaped = r == '\\' && !escaped
	}
	return nowhere
}

// editsOfPart are the edits by which a part is written anew, by the places of its line.
func editsOfPart(line string, part Part) []Edit {
	switch {
	case part.Kind == parts.String:
		return editsOfBody(line, part, isHazard, escape)
	case part.Kind == parts.Comment && firstHazard(line, part.Body, part.End) != nowhere:
		edits := []Edit{{At: part.Body, New: isolateBegins}}
		edits = append(edits, editsOfBody(line, part, isTurn, name)...)
		return append(edits, Edit{At: part.End, New: isolateEnds})
	}
	return nil
}

// editsOfBody writes those runes of a body anew that are meant.
func editsOfBody(line string, part Part, meant func(rune) bool, written func(rune) string) []Edit {
	var edits []Edit
	for at, r := range line[part.Body:part.End] {
		if meant(r) {
			edits = append(edits, Edit{At: part.Body + at, Cut: utf8.RuneLen(r), New: written(r)})
		}
	}
	return edits
}

func isHazard(r rune) bool {
	switch bidi.ClassOf(r) {
	case bidi.R, bidi.AL, bidi.AN:
		return true
	}
	return r == leftMark || isTurn(r)
}

// isTurn: these runes turn the direction, or end that.
func isTurn(r rune) bool { return bidi.ClassOf(r).Turns() }

func escape(r rune) string { return `\u` + fourDigits(r) }

func name(r rune) string { return "<U+" + strings.ToUpper(fourDigits(r)) + ">" }

// fourDigits is the number of a hazard to the base 16. (None lies beyond U+FFFF.)
func fourDigits(r rune) string {
	digits := "000" + strconv.FormatInt(int64(r), 16)
	return digits[len(digits)-4:]
}

// liesWithin tells whether an edit lies between two places of a text. (At and Cut together may be beyond all numbers: they aren't added up.)
func liesWithin(edit Edit, from, to int) bool {
	return edit.At >= from && edit.Cut >= 0 && edit.Cut <= to-edit.At
}
