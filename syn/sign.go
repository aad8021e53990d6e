package syn

import (
	"strconv"
	"strings"

	"hyphen/api"
)

// kind tells signs apart; one of a single byte has that byte as its kind.
type kind int

const (
	ending kind = 256 + iota // where the text ends
	noSign                   // a byte that is none, and what stands behind a fault: fits nowhere
	nameWord
	number
	scalar
	anyWord
	classWord
	lineWord // rules begin with this one and the two behind it, in the order of their Cats
	hyphenWord
	emergencyWord
)

// sign is one sign of a text.
type sign struct {
	kind  kind
	at    int    // where it begins
	word  string // of a name
	n     int    // of a number, of a scalar
	large bool   // more than may be, wherever it stands
}

// source is a text, and how far it was gone through.
type source struct {
	s    string
	done int
}

// next goes over one sign, and what is between it and the one ahead; at the end it stays.
func (r *source) next() sign {
	r.pass()
	g, size := first(r.s[r.done:])
	g.at = r.done
	r.done += size
	return g
}

// pass goes over blanks, line feeds and remarks.
func (r *source) pass() {
	remark := false
	for ; r.done < len(r.s); r.done++ {
		switch c := r.s[r.done]; {
		case c == '\n':
			remark = false
		case c == '#':
			remark = true
		case c != ' ' && !remark:
			return
		}
	}
}

// first tells the sign that s begins with, and how many bytes it has.
func first(s string) (sign, int) {
	switch {
	case s == "":
		return sign{kind: ending}, 0
	case isSmall(s[0]):
		return word(s)
	case isDigit(s[0]):
		return digits(s)
	case s[0] == '\'':
		return quoted(s)
	case s[0] == 'U':
		return coded(s)
	case strings.IndexByte("{}()=;:/|&!-*@.,?", s[0]) >= 0:
		return sign{kind: kind(s[0])}, 1
	}
	return sign{kind: noSign}, 1
}

// word reads a word, which s begins with.
func word(s string) (sign, int) {
	size := run(s, isOfWord)
	// Cloned, so that rules that are kept do not keep the text that they were read from.
	w := strings.Clone(s[:size])
	return sign{kind: wordKind(w), word: w, large: size > api.MaxName}, size
}

// wordKind tells which key word w is; it is a name otherwise.
func wordKind(w string) kind {
	switch w {
	case "any":
		return anyWord
	case "class":
		return classWord
	case "line":
		return lineWord
	case "hyphen":
		return hyphenWord
	case "emergency":
		return emergencyWord
	}
	return nameWord
}

// digits reads a number, which s begins with.
func digits(s string) (sign, int) {
	size := run(s, isDigit)
	// Of what no int can hold Atoi tells the greatest one: large, too.
	n, _ := strconv.Atoi(s[:size])
	return sign{kind: number, n: n, large: n > api.MaxW}, size
}

// quoted reads a scalar in quotes, the first of which s begins with.
func quoted(s string) (sign, int) {
	if len(s) < 3 || s[1] < ' ' || s[1] > '~' || s[2] != '\'' {
		return sign{kind: noSign}, 1
	}
	return sign{kind: scalar, n: int(s[1])}, 3
}

// coded reads a scalar by its number, if s begins with one.
func coded(s string) (sign, int) {
	code, is := strings.CutPrefix(s, "U+")
	size := run(code[:min(len(code), 6)], isHex)
	if !is || size == 0 {
		return sign{kind: noSign}, 1
	}
	// Six digits of sixteen fit: no error can come.
	n, _ := strconv.ParseInt(code[:size], 16, 64)
	return sign{kind: scalar, n: int(n), large: n > api.Last}, len("U+") + size
}

// run tells how many bytes s begins with that fit.
func run(s string, fits func(byte) bool) int {
	n := 0
	for n < len(s) && fits(s[n]) {
		n++
	}
	return n
}

// isSmall tells whether c is a small letter.
func isSmall(c byte) bool {
	return 'a' <= c && c <= 'z'
}

// isDigit tells whether c is a digit.
func isDigit(c byte) bool {
	return '0' <= c && c <= '9'
}

// isOfWord tells whether c may go on a word.
func isOfWord(c byte) bool {
	return isSmall(c) || isDigit(c)
}

// isHex tells whether c is a digit of sixteen.
func isHex(c byte) bool {
	return isDigit(c) || 'A' <= c && c <= 'F'
}
