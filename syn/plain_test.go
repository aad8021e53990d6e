package syn

import (
	"slices"
	"strconv"
	"strings"
	"testing"

	"hyphen/api"
)

// plain goes through signs one by one, with no tree and no calls within calls: another way to tell the first fault.
type plain struct {
	want  string   // what has to come next: see ask
	open  []string // the brackets and nots that are open
	names []string
	rules int
	right bool
	first int // the first number of a repeat, the first scalar of a range
}

// ask tells what is wrong with the next sign, and goes over it where nothing is.
func (p *plain) ask(s string) api.Errno {
	if s != "" && (s[0] >= 'a' && s[0] <= 'z' && len(s) > 12 || value(s) > api.MaxW && s[0] != 'U' || value(s) > api.Last) {
		return api.Large
	}
	switch p.want {
	case "top":
		return p.top(s)
	case "name":
		if !isName(s) {
			return api.Syntax
		}
		if slices.Contains(p.names, s) {
			return api.Twice
		}
		p.names = append(p.names, s)
		return p.then("=")
	case "set":
		return p.set(s)
	case "set done", "scalar done":
		return p.setDone(s)
	case "second":
		if s != "." {
			return api.Syntax
		}
		return p.then("scalar")
	case "scalar":
		if !isScalar(s) || value(s) < p.first {
			return api.Syntax
		}
		return p.done("set done")
	case "cost":
		return p.number(s, ":")
	case "row", "part done":
		return p.pattern(s)
	case "lo":
		p.first = value(s)
		return p.number(s, ",")
	case "hi":
		if s != "" && value(s) > api.MaxTimes && value(s) >= 0 && !isScalar(s) {
			return api.Large
		}
		if value(s) < p.first {
			return api.Syntax
		}
		return p.number(s, "}")
	case "weight":
		return p.number(s, "part done")
	}
	return p.exact(s)
}

// then says what has to come next.
func (p *plain) then(want string) api.Errno {
	p.want = want
	return api.OK
}

// exact goes over the one sign that may come.
func (p *plain) exact(s string) api.Errno {
	if s != p.want {
		return api.Syntax
	}
	return p.then(map[string]string{"=": "set", ":": "row", ",": "hi", "}": "part done"}[s])
}

// number goes over a number.
func (p *plain) number(s, then string) api.Errno {
	if s == "" || s[0] < '0' || s[0] > '9' {
		return api.Syntax
	}
	return p.then(then)
}

func (p *plain) top(s string) api.Errno {
	switch s {
	case "":
		return api.OK
	case "class":
		if p.rules > 0 {
			return api.Syntax
		}
		if len(p.names) == api.MaxSets {
			return api.Large
		}
		return p.then("name")
	case "line", "hyphen", "emergency":
		if p.rules == api.MaxRules {
			return api.Large
		}
		p.rules++
		p.right = false
		return p.then("cost")
	}
	return api.Syntax
}

// known tells whether s is a Def's name; the last one's is not yet, while it is read.
func (p *plain) known(s string, yet int) api.Errno {
	if slices.Contains(p.names[:len(p.names)-min(yet, len(p.names))], s) {
		return api.OK
	}
	return api.NoName
}

func (p *plain) set(s string) api.Errno {
	switch {
	case isScalar(s):
		p.first = value(s)
		return p.done("scalar done")
	case isName(s):
		if e := p.known(s, 1); e != api.OK {
			return e
		}
		return p.done("set done")
	case s == "any":
		return p.done("set done")
	case s == "(" || s == "!":
		return p.within(s, "set")
	}
	return api.Syntax
}

// within goes over a sign that others are within.
func (p *plain) within(s, then string) api.Errno {
	if len(p.open) == api.MaxDeep {
		return api.Large
	}
	p.open = append(p.open, s)
	return p.then(then)
}

// done ends the nots ahead of what is done.
func (p *plain) done(want string) api.Errno {
	for len(p.open) > 0 && p.open[len(p.open)-1] == "!" {
		p.open = p.open[:len(p.open)-1]
	}
	return p.then(want)
}

// closes goes over a closing bracket.
func (p *plain) closes(want string) api.Errno {
	if len(p.open) == 0 {
		return api.Syntax
	}
	p.open = p.open[:len(p.open)-1]
	return p.done(want)
}

func (p *plain) setDone(s string) api.Errno {
	switch {
	case s == "." && p.want == "scalar done":
		return p.then("second")
	case s == "|" || s == "-" || s == "&":
		return p.then("set")
	case s == ")":
		return p.closes("set done")
	case s == ";" && len(p.open) == 0:
		return p.then("top")
	}
	return api.Syntax
}

func (p *plain) pattern(s string) api.Errno {
	switch {
	case s == "(":
		return p.within(s, "row")
	case s == "any" || s == ".":
		return p.then("part done")
	case isName(s):
		if e := p.known(s, 0); e != api.OK {
			return e
		}
		return p.then("part done")
	case s == "|":
		return p.then("row")
	case s == ")":
		return p.closes("part done")
	case s == "/" && !p.right && len(p.open) == 0:
		p.right = true
		return p.then("row")
	case s == ";" && p.right && len(p.open) == 0:
		return p.then("top")
	}
	return p.behind(s)
}

func (p *plain) behind(s string) api.Errno {
	switch {
	case p.want == "row":
		return api.Syntax
	case s == "*":
		return api.OK
	case s == "{":
		return p.then("lo")
	case s == "@" && p.right:
		return api.Weighted
	case s == "@":
		return p.then("weight")
	}
	return api.Syntax
}

func isName(s string) bool {
	return s != "" && s[0] >= 'a' && s[0] <= 'z' && !slices.Contains([]string{"any", "class", "emergency", "hyphen", "line"}, s)
}

func isScalar(s string) bool {
	return strings.HasPrefix(s, "'") || strings.HasPrefix(s, "U+")
}

// value tells the number of a sign; -1 of one that has none.
func value(s string) int {
	n, err := int64(-1), error(nil)
	switch {
	case strings.HasPrefix(s, "'"):
		n = int64(s[1])
	case strings.HasPrefix(s, "U+"):
		n, err = strconv.ParseInt(s[2:], 16, 64)
	case s != "" && s[0] >= '0' && s[0] <= '9':
		n, err = strconv.ParseInt(s, 10, 64)
	}
	if err != nil {
		panic(err)
	}
	return int(n)
}

// signs is what is thrown from; "$" is none.
func signs() []string {
	return strings.Fields("class line hyphen emergency any a b c d c2 emergencyone abcdefghijklm 'a' 'z' ''' '#' U+41 U+D800 U+10FFFF U+110000 0 1 5 12 13 14 1000000 1000001 " +
		"; : / = | & ! - * @ { } ( ) . , ? $ ( ( ! ! . . any a b | & * 1 12")
}

// bold is what is thrown from where something is to be wrong.
func (p *plain) bold() []string {
	switch {
	case p.want == "name":
		return append(strings.Fields("any line abcdefghijklm 5 U+41 ="), slices.Repeat(p.names, 5)...)
	case p.want == "part done" && p.right:
		return append(signs(), slices.Repeat([]string{"@"}, 30)...)
	}
	return append(signs(), strings.Fields("( ! 13 class line c d c d")...)
}

// closers is what leads to the end of what was begun: the first one that fits.
func closers() []string {
	return strings.Fields("; / ) : , } = U+10FFFF any 12 e f g h i j k l m n")
}

// fits tells whether sign may come next.
func (p plain) fits(sign string) bool {
	p.open, p.names = slices.Clone(p.open), slices.Clone(p.names)
	return p.ask(sign) == api.OK
}

// choose throws a sign that may come next; at times one that need not.
func (p *plain) choose(d *dice, rashness int) string {
	if d.of(rashness) == 0 || p.want == "name" && d.of(8) == 0 {
		return pick(d, p.bold()...)
	}
	l := signs()
	if p.want == "top" {
		l = strings.Fields("class class class line hyphen emergency")
	}
	for range 30 {
		if sign := pick(d, l...); p.fits(sign) {
			return sign
		}
	}
	return p.close()
}

// close tells a sign that leads to an end, or one that is wrong, where there is none.
func (p *plain) close() string {
	l := closers()
	return l[max(0, slices.IndexFunc(l, p.fits))]
}

// try throws signs, and tells their text, the place of the first fault and which it is.
func try(d *dice, rashness, length int) (string, int, api.Errno) {
	p := plain{want: "top"}
	s := ""
	for i := 0; i < length || p.want != "top"; i++ {
		sign := p.close()
		if i < length {
			sign = p.choose(d, rashness)
		}
		if e := p.ask(sign); e != api.OK {
			return s + sign + pick(d, "", " ", " $", " x y", ";\n"), len(s), e
		}
		s += sign + pick(d, " ", "\n", "  ", "# '\n")
	}
	return s, 0, api.OK
}

// What Parse says of texts thrown together is what a way through them, sign by sign, tells.
func TestPlainly(t *testing.T) {
	d := &dice{23}
	met := map[api.Errno]int{}
	for i := range 20000 {
		s, at, e := try(d, 10+i%150, 1+i%120)
		if len(s) > api.MaxSrc {
			continue
		}
		met[e]++
		wrongAt(t, s, at, e)
		if t.Failed() {
			return
		}
	}
	for _, e := range []api.Errno{api.OK, api.Syntax, api.Large, api.Twice, api.NoName, api.Weighted} {
		if met[e] < 100 {
			t.Errorf("%v came no more than %d times", e, met[e])
		}
	}
}
