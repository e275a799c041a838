// Package parts reads a text as code, strings and comments.
package parts

// The kinds of a part; their numbers are the document's.
const (
	Code = iota
	String
	Comment
)

// Part is what of a piece of code, a string or a comment stands on one line: its bytes in the line, and those of its body.
type Part struct{ Kind, From, To, Body, End int }

// Read tells the parts of a text, each with the number of its line, until tell answers false.
func Read(text string, tell func(line int, part Part) bool) {
	r := reader{text: text, tell: tell}
code:
	for !r.over() {
		switch s := r.sign(); {
		case s.first == '"':
			goto quoted
		case s == lineComment:
			goto remark
		case s == blockBegins:
			goto block
		case s.first == '\n':
			r.cut(Code, 0)
			r.feed()
		default:
			r.at++
		}
	}
	r.cut(Code, 0)
	return

quoted:
	r.open(1)
	for !r.lineOver() {
		switch s := r.sign(); {
		case s.first == '"':
			r.cut(String, 1)
			goto code
		case s.first == '\\' && s.second != '\n':
			r.at += 2
		default:
			r.at++
		}
	}
	r.cut(String, 0)
	goto code

remark:
	r.open(2)
	r.skipLine()
	r.cut(Comment, 0)
	goto code

block:
	r.open(2)
	for !r.over() {
		switch s := r.sign(); {
		case s == blockEnds:
			r.cut(Comment, 2)
			goto code
		case s.first == '\n':
			r.cut(Comment, 0)
			r.feed()
		default:
			r.at++
		}
	}
	r.cut(Comment, 0)
}
