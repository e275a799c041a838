package bidi

import "bidiguard/stack"

const maxDepth = 125

type entry struct {
	level    int
	override Class
	isolate  bool
}

// walk goes over a line from its first rune to its last and gives out explicit levels (X).
type walk struct {
	line           *line
	entries        stack.Stack[entry]
	overIsolates   int
	overEmbeddings int
	isolates       int
}

func (l *line) setExplicitLevels() {
	w := walk{line: l}
	w.entries.Push(entry{l.paragraph, none, false})
	for i := range l.table {
		w.step(i)
	}
}

func (w *walk) step(i int) {
	class := w.line.table[i]
	// A PDI stands outside of what it closes; all others stand outside of what they open, or inside of what they close.
	if class == PDI {
		w.closeIsolate()
	}
	w.settle(i)
	switch {
	case class.embeds():
		w.embed(class)
	case class.isolates():
		w.isolate(w.isolateSide(i))
	case class == PDF:
		w.closeEmbedding()
	}
}

func (w *walk) settle(i int) {
	top := w.entries.Top()
	w.line.levels[i] = top.level
	if top.override != none {
		w.line.classes[i] = top.override
	}
}

// isolateSide: an FSI asks the runes within it.
func (w *walk) isolateSide(i int) Class {
	switch w.line.table[i] {
	case LRI:
		return L
	case RLI:
		return R
	}
	return sideOf(w.line.foundLevel(i+1, w.line.isolateEnd(i)))
}

func (w *walk) embed(class Class) {
	var next entry
	switch class {
	case LRE:
		next = entry{w.nextLevel(L), none, false}
	case RLE:
		next = entry{w.nextLevel(R), none, false}
	case LRO:
		next = entry{w.nextLevel(L), L, false}
	default:
		next = entry{w.nextLevel(R), R, false}
	}
	if w.fits(next.level) {
		w.entries.Push(next)
	} else if w.overIsolates == 0 {
		w.overEmbeddings++
	}
}

func (w *walk) isolate(side Class) {
	next := w.nextLevel(side)
	if !w.fits(next) {
		w.overIsolates++
		return
	}
	w.isolates++
	w.entries.Push(entry{next, none, true})
}

func (w *walk) nextLevel(side Class) int {
	next := w.entries.Top().level + 1
	if sideOf(next) != side {
		next++
	}
	return next
}

func (w *walk) fits(level int) bool {
	return level <= maxDepth && w.overIsolates == 0 && w.overEmbeddings == 0
}

func (w *walk) closeIsolate() {
	if w.overIsolates > 0 {
		w.overIsolates--
		return
	}
	if w.isolates == 0 {
		return
	}
	w.isolates--
	w.overEmbeddings = 0
	for {
		if gone, ok := w.entries.Pop(); !ok || gone.isolate {
			return
		}
	}
}

func (w *walk) closeEmbedding() {
	switch {
	case w.overIsolates > 0:
	case w.overEmbeddings > 0:
		w.overEmbeddings--
	case !w.entries.Top().isolate && w.entries.Len() >= 2:
		w.entries.Pop()
	}
}
