// Package bidi works out how a line is shown: the class and the level of each rune, and their order.
package bidi

// Class is the class of a rune; its number is the document's.
type Class int

const (
	L Class = iota
	R
	AL
	EN
	ES
	ET
	AN
	CS
	NSM
	BN
	S
	WS
	ON
	LRE
	RLE
	LRO
	RLO
	PDF
	LRI
	RLI
	FSI
	PDI
)

// none stands where there is no class, no level or no place.
const none = -1

type span struct {
	first, last rune
	class       Class
}

var spans = [...]span{
	{0x05D0, 0x05EA, R}, {0x200F, 0x200F, R},
	{0x0627, 0x064A, AL}, {0x061C, 0x061C, AL},
	{'0', '9', EN},
	{'+', '+', ES}, {'-', '-', ES},
	{'#', '%', ET}, {0x20AC, 0x20AC, ET},
	{0x0660, 0x0669, AN},
	{',', ',', CS}, {'.', '/', CS}, {':', ':', CS},
	{0x0300, 0x036F, NSM}, {0x064B, 0x0652, NSM},
	{0x00AD, 0x00AD, BN}, {0x200B, 0x200B, BN},
	{'\t', '\t', S},
	{' ', ' ', WS}, {0x2003, 0x2003, WS},
	{'!', '"', ON}, {'&', '*', ON}, {';', '@', ON}, {'[', '`', ON}, {'{', '~', ON},
	{0x2329, 0x232A, ON}, {0x3008, 0x3009, ON},
	{0x202A, 0x202A, LRE}, {0x202B, 0x202B, RLE}, {0x202D, 0x202D, LRO}, {0x202E, 0x202E, RLO}, {0x202C, 0x202C, PDF},
	{0x2066, 0x2066, LRI}, {0x2067, 0x2067, RLI}, {0x2068, 0x2068, FSI}, {0x2069, 0x2069, PDI},
}

// ClassOf is the class that a rune has in the table.
func ClassOf(r rune) Class {
	for _, s := range spans {
		if s.first <= r && r <= s.last {
			return s.class
		}
	}
	return L
}

// Turns: these runes turn the direction, or end that.
func (c Class) Turns() bool { return c >= LRE && c <= PDI }

func (c Class) embeds() bool { return c == LRE || c == RLE || c == LRO || c == RLO }

func (c Class) isolates() bool { return c == LRI || c == RLI || c == FSI }

// takenOut: these runes have no part in the rules behind X.
func (c Class) takenOut() bool { return c.embeds() || c == PDF || c == BN }

func (c Class) neutral() bool { return c == WS || c == S || c == ON || c.isolates() || c == PDI }

// trails: rows of these fall back to the paragraph level ahead of an S and at the line's end.
func (c Class) trails() bool { return c == WS || c.isolates() || c == PDI || c.takenOut() }

// side is the direction that a class counts for among neutrals.
func (c Class) side() Class {
	switch c {
	case L:
		return L
	case R, EN, AN:
		return R
	}
	return none
}

// sideOf is the direction of a level.
func sideOf(level int) Class {
	if level%2 == 0 {
		return L
	}
	return R
}
