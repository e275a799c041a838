package parts

// sign is a byte and the one behind it: it takes both to know the ends of a comment.
type sign struct{ first, second byte }

var (
	lineComment = sign{'/', '/'}
	blockBegins = sign{'/', '*'}
	blockEnds   = sign{'*', '/'}
)

// reader stands somewhere in a text, within a part that has begun.
type reader struct {
	text    string
	tell    func(line int, part Part) bool
	line    int  // the number of the line
	start   int  // where the line begins in the text, as what is below
	from    int  // where the part begins
	body    int  // where its body begins
	at      int  // what is read next
	stopped bool // no more parts are wanted
}

func (r *reader) over() bool { return r.stopped || r.at == len(r.text) }

func (r *reader) lineOver() bool { return r.over() || r.text[r.at] == '\n' }

func (r *reader) skipLine() {
	for !r.lineOver() {
		r.at++
	}
}

// sign is what is read next, where there is something. The text's end counts as a line feed: what may not reach over the one may not reach over the other.
func (r *reader) sign() sign {
	s := sign{r.text[r.at], '\n'}
	if r.at+1 < len(r.text) {
		s.second = r.text[r.at+1]
	}
	return s
}

// open begins a string or a comment, whose first bytes are no body; the code ahead of it is over.
func (r *reader) open(head int) {
	r.cut(Code, 0)
	r.at += head
	r.body = r.at
}

// cut ends a part behind its last bytes, which are no body and are not read yet. Where nothing has been read there is none.
func (r *reader) cut(kind, tail int) {
	end := r.at
	r.at += tail
	if r.stopped || r.from == r.at {
		return
	}
	p := Part{Kind: kind, From: r.from - r.start, To: r.at - r.start}
	if kind != Code {
		p.Body, p.End = r.body-r.start, end-r.start
	}
	r.stopped = !r.tell(r.line, p)
	r.from, r.body = r.at, r.at
}

// feed goes over a line feed, which belongs to no part.
func (r *reader) feed() {
	r.at++
	r.line++
	r.start, r.from, r.body = r.at, r.at, r.at
}
