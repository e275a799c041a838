package guard

import (
	"errors"
	"strconv"
	"strings"
	"unicode/utf8"
)

const (
	maxText = 600 // bytes of a text
	maxLine = 300 // runes of a line
)

var (
	ErrLong = errors.New("a text that is too long")
	ErrText = errors.New("no valid text")
	ErrCode = errors.New("a letter in code that turns the line")
)

// LineError is an error of a line.
type LineError struct {
	Line int
	At   int
	Err  error
}

func (e *LineError) Error() string {
	if e == nil {
		return "no error"
	}
	place := "line " + strconv.Itoa(e.Line) + ", byte " + strconv.Itoa(e.At)
	if e.Err == nil {
		return place
	}
	return place + ": " + e.Err.Error()
}

func (e *LineError) Unwrap() error {
	if e == nil {
		return nil
	}
	return e.Err
}

func checkLine(line string) error {
	switch {
	case len(line) > maxText:
		return ErrLong
	case !utf8.ValidString(line) || strings.Contains(line, "\n"):
		return ErrText
	case utf8.RuneCountInString(line) > maxLine:
		return ErrLong
	}
	return nil
}
