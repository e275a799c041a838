package guard

import (
	"errors"
	"strconv"
	"strings"
	"unicode/utf8"
)

const (
	maxText = 600 // bytes of a text
	maxLine = 300 // runes of a line
)

var (
	ErrLong = errors.New("a text that is too long")
	ErrText = errors.New("no valid text")
	ErrCode = errors.New("a letter in code that turns the line")
)

// LineError is an error of a line.
type LineError struct {
	Line int
	At   int
	Err  error
}

func (e *LineError) Error() string {
	if e == nil {
		return "no error"
	}
	place := "line " + strconv.Itoa(e.Line) + ", byte " + strconv.Itoa(e.At)
	if e.Err == nil {
		return place
	}
	return place + ": " + e.Err.Error()
}

func (e *LineError) Unwrap() error {
	if e == nil {
		return nil
	}
	return e.Err
}

func checkLine(line string) error {
	switch {
	case len(line) > maxText:
		return ErrLong
	case !utf8.ValidString(line) || strings.Contains(line, "\n"):
		return ErrText
	case utf8.RuneCountInString(line) > maxLine:
		return ErrLong
	}
	return nil
}

func checkText(text string) error {
	if len(text) > maxText {
		return ErrLong
	}
	lines := strings.Split(text, "\n")
	for number, line := range lines {
		if at := runesEnd(line); at < len(line) {
			return &LineError{Line: number, At: at, Err: ErrText}
		}
	}
	for number, line := range lines {
		if utf8.RuneCountInString(line) > maxLine {
			return &LineError{Line: number, Err: ErrLong}
		}
	}
	return nil
}

// runesEnd is the first byte that belongs to no rune, or the line's end.
func runesEnd(line string) int {
	at := 0
	for at < len(line) {
		r, size := utf8.DecodeRuneInString(line[at:])
		// U+FFFD may have been written: only what is no rune has one byte.
		if r == utf8.RuneError && size == 1 {
			break
		}
		at += size
	}
	return at
}
