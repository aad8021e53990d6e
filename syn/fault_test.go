package syn

import (
	"strconv"
	"strings"
	"testing"

	"hyphen/api"
)

// Of 4000 bytes, and of one more, whatever they are.
func TestLength(t *testing.T) {
	fine(t, strings.Repeat(" ", api.MaxSrc))
	fine(t, "#"+strings.Repeat("\xff", api.MaxSrc-1))
	s := "class a = any;" + strings.Repeat("\n", api.MaxSrc)
	fine(t, s[:api.MaxSrc])
	for _, s := range []string{
		s[:api.MaxSrc+1], s, strings.Repeat(" ", api.MaxSrc+1), "$" + s, "?" + strings.Repeat("x", api.MaxSrc), strings.Repeat("(", 100000),
		"class a = any;class a = any;" + strings.Repeat("#", api.MaxSrc-28+1),
	} {
		wrongAt(t, s, 0, api.Large)
	}
	wrongAt(t, strings.Repeat(" ", api.MaxSrc-1)+"$", api.MaxSrc-1, api.Syntax)
	wrongAt(t, "class"+strings.Repeat(" ", api.MaxSrc-5), api.MaxSrc, api.Syntax)
}

// defs is that many Defs, rules that many Rules.
func defs(n int) string {
	s := ""
	for i := range n {
		s += "class c" + strconv.Itoa(i) + " = any;"
	}
	return s
}

func rules(n int) string {
	return strings.Repeat("line 5 : / ;hyphen 0 : / ;", n/2) + strings.Repeat("emergency 9:/;", n%2)
}

// A 13th Def, a 21st Rule: at its first sign, whatever is behind it.
func TestCounts(t *testing.T) {
	for n := range api.MaxSets + 1 {
		if f, _, e := Parse(defs(n) + rules(1)); e != api.OK || len(f.Defs) != n {
			t.Errorf("P501: %d Defs: %v", n, e)
		}
	}
	for n := range api.MaxRules + 1 {
		if f, _, e := Parse(rules(n)); e != api.OK || len(f.Rules) != n {
			t.Errorf("P501: %d Rules: %v", n, e)
		}
	}
	for _, s := range []string{"class", "class d = any;", "class c0 = any;", "class $", "class abcdefghijklm", "class class"} {
		wrong(t, defs(12)+"^"+s, api.Large)
	}
	for _, s := range []string{"line", "hyphen", "emergency", "line 5 : / ;", "hyphen 1000001", "emergency $"} {
		wrong(t, defs(2)+rules(20)+"^"+s, api.Large)
	}
	// What may not stand there is Syntax, were there too many or not.
	for _, s := range []string{"any", "c0", "5", ";", "?", "$"} {
		wrong(t, defs(12)+"^"+s, api.Syntax)
		wrong(t, rules(20)+"^"+s, api.Syntax)
	}
	wrong(t, rules(20)+"^class", api.Syntax)
	wrong(t, defs(12)+rules(1)+"^class d = any;", api.Syntax)
	wrong(t, defs(12)+rules(20)+"^abcdefghijklm", api.Large)
}

// All Defs stand ahead of all Rules.
func TestDefsBehindRules(t *testing.T) {
	wrong(t, "line 5 : / ;^class a = any;", api.Syntax)
	wrong(t, defs(3)+rules(1)+"^class c0 = any;", api.Syntax)
	wrong(t, defs(3)+rules(7)+" # x\n ^class", api.Syntax)
	fine(t, defs(3)+rules(7))
}

// A name twice; a name that is none, or not yet.
func TestNames(t *testing.T) {
	fine(t, "class a = any;class aa = any;class aaa = any;class a1 = a;")
	wrong(t, "class a = any;class ^a = any;", api.Twice)
	wrong(t, "class a = any;class b = any;class ^a", api.Twice)
	wrong(t, "class a = any;class b = any;class ^b = x;", api.Twice)
	wrong(t, "class a = any;class b = any;class ^b : $", api.Twice)
	wrong(t, "class abcdefghijkl = any;class ^abcdefghijkl = any", api.Twice)
	wrong(t, "class a = ^a;", api.NoName)
	wrong(t, "class a = any | ^a", api.NoName)
	wrong(t, "class a = ^b;class b = any;", api.NoName)
	wrong(t, "class a = any;class b = a & !(^c) $", api.NoName)
	for _, s := range []string{"^aa;", "x | ^a", "x & y & ^z;", "!^z", "(^b", "x - ^xx;", "^x1;", "^line1", "^abcdefghijkl"} {
		wrongClass(t, s, api.NoName)
	}
	for _, s := range []string{"^x / ;", "^aa", "a ^d", "a | ^x", "(^x", "(a)^x", "a*^x", "a{1,2}^x", "a@1 ^x", "^anyx", "^classa", "^abcdefghijkl"} {
		wrongLeft(t, s, api.NoName)
	}
	for _, s := range []string{"^x;", "^x @ 5", "a ^x", "a | ^x", "(^x $"} {
		wrongRight(t, s, api.NoName)
	}
	wrong(t, "line 5 : ^a / ;", api.NoName)
}

// nest is what open many brackets, or nots, make of s.
func nest(open string, s string) string {
	return open + s + strings.Repeat(")", strings.Count(open, "("))
}

// Brackets and nots 12 deep, and one more.
func TestDeepClasses(t *testing.T) {
	nots, brackets := strings.Repeat("!", 12), strings.Repeat("(", 12)
	mixed := []string{nots, brackets, strings.Repeat("(!", 6), strings.Repeat("!(", 6), "!!!!!!((((((", "((((((!!!!!!", "!(((!!(!((!("}
	for _, open := range mixed {
		for _, behind := range []string{";", " | (x);", "& !x;", " - !(x);"} {
			fine(t, "class x = any;class k = "+nest(open, "x")+behind)
		}
		fine(t, "class x = any;class k = "+nest(open, "x | 'a'..'b' - x & any")+";")
		// What is done is no more within: side by side each may be as deep.
		fine(t, "class x = any;class k = "+nest(open, "x")+" & "+nest(open, "x")+" - "+nest(open, "x")+";class l = "+nest(open, "k")+";")
		wrongClass(t, open+"^!", api.Large)
		wrongClass(t, open+"^(", api.Large)
		wrongClass(t, open+"^!x", api.Large)
		wrongClass(t, open+"^(x", api.Large)
		wrongClass(t, open+"^(x $", api.Large)
		wrongClass(t, open+"^!1000001", api.Large)
		wrongClass(t, open+"^)", api.Syntax)
		wrongClass(t, open+"^w", api.NoName)
		wrongClass(t, open+"^1000001", api.Large)
	}
	// Not within a not that is done, but within the bracket around it.
	wrongClass(t, strings.Repeat("(", 11)+"!x | !^!x", api.Large)
	wrongClass(t, strings.Repeat("(", 11)+"!x | (^!x", api.Large)
	wrongClass(t, brackets+"x | ^!x", api.Large)
	wrongClass(t, brackets+"x^(", api.Syntax)
	wrongClass(t, nots+"x^!", api.Syntax)
	fine(t, "class x = any;class k = "+nest(strings.Repeat("(", 11), "!x | (x) & !x - (x)")+" | !x;")
}

func TestDeepPatterns(t *testing.T) {
	brackets := strings.Repeat("(", 12)
	for _, s := range []string{nest(brackets, "a"), nest(brackets, ""), nest(brackets, "a b | c*"), nest(brackets, "a") + nest(brackets, "b"), nest(brackets, "a") + "|" + nest(brackets, "b") + "*"} {
		fine(t, abc+"line 7 : "+s+" / "+s+";hyphen 7 : "+s+" / "+s+";")
	}
	for _, s := range []string{"^(", "^(a", "^()", "^(x", "a ^(", "a | ^(", "a*^(", "a{1,2}^(", "^($", "^(abcdefghijklm"} {
		wrongLeft(t, brackets+s, api.Large)
		wrongRight(t, brackets+s, api.Large)
		wrongRight(t, nest(brackets, "a")+brackets+s, api.Large)
	}
	wrongLeft(t, strings.Repeat("(", 11)+"(a)(b)^", api.Syntax)
	wrongLeft(t, strings.Repeat("(", 11)+"(a)(^(b", api.Large)
	wrongLeft(t, brackets+"^!", api.Syntax)
	// Brackets alone are counted, not how patterns hang on one another.
	x := dot()
	for range 3000 {
		x = star(x)
	}
	reads(t, "line 5 : ."+strings.Repeat("*", 3000)+"/;", api.File{Rules: []api.Rule{{Cat: 0, Cost: 5, Left: x, Right: none()}}})
}

// A second number of { } that is above 12 is Large, less than the first or not; else one that is less than the first is Syntax.
func TestRepeats(t *testing.T) {
	for lo := range 13 {
		for hi := range 16 {
			s := "a{" + strconv.Itoa(lo) + ",^" + strconv.Itoa(hi) + "}"
			switch {
			case hi > api.MaxTimes:
				wrongLeft(t, s, api.Large)
				wrongRight(t, s, api.Large)
			case hi < lo:
				wrongLeft(t, s, api.Syntax)
				wrongRight(t, s, api.Syntax)
			default:
				reads(t, abc+"line 7 : "+strings.Replace(s, "^", "", 1)+" / ;", api.File{Defs: abcDefs(), Rules: []api.Rule{{Cat: 0, Cost: 7, Left: times(one("a"), lo, hi), Right: none()}}})
			}
		}
	}
	for s, e := range map[string]api.Errno{
		"a{13,^12}": api.Syntax, "a{13,^13}": api.Large, "a{14,^13}": api.Large, "a{1000000,^0}": api.Syntax, "a{1000000,^999999}": api.Large,
		"a{1000000,^1000000}": api.Large, "a{^1000001,1}": api.Large, "a{1,^1000001}": api.Large, "a{12,^11": api.Syntax, "a{12,^13": api.Large,
		"a{1^}": api.Syntax, "a{^,2}": api.Syntax, "a{^}": api.Syntax, "a{1,^}": api.Syntax, "a{1 ^2}": api.Syntax, "a{1,2^,3}": api.Syntax, "a{1,2^)": api.Syntax,
		"a{1,2^;": api.Syntax, "a{^-1,2}": api.Syntax, "a{1,^-2}": api.Syntax, "a{^a,2}": api.Syntax, "a{1,^b}": api.Syntax, "a{^'1',2}": api.Syntax,
		"a{1,^U+2}": api.Syntax, "a{1^.2}": api.Syntax, "a^}": api.Syntax, "^{1,2}": api.Syntax, "a | ^{1,2}": api.Syntax, "(^{1,2}": api.Syntax,
	} {
		wrongLeft(t, s, e)
		wrongRight(t, s, e)
	}
}

// A weight at the Left; at the Right, behind a part; elsewhere.
func TestWeights(t *testing.T) {
	for _, s := range []string{
		"a ^@ 5", "a^@5", "a b^@1", "a*^@1", "a{1,2} ^@ 0", "()^@1", "(a)^@1", "(a | b)^@1", "(a^@1)", ".^@1", "any^@1", "a | b ^@ 1", "a#\n^@#\n1",
		"(a (b | c ^@ 1000000))*", "a ^@ 5 @ 6",
	} {
		wrongRight(t, s+";", api.Weighted)
		fine(t, abc+"line 7 : "+strings.Replace(s, "^", "", 1)+" / ;")
	}
	for _, s := range []string{"a^@", "a ^@ x", "a ^@ 1000001", "a{1,2} ^@", "(a^@", "a ^@ $", "a ^@@"} {
		wrongRight(t, s, api.Weighted)
	}
	for _, s := range []string{"^@ 5;", "^@", "a | ^@5", "(^@5", "a (^@", "a b | (c | ^@"} {
		wrongLeft(t, s, api.Syntax)
		wrongRight(t, s, api.Syntax)
	}
	for _, s := range []string{"a @ ^/", "a @ ^b", "a @ ^'1'", "a @ ^U+1", "a @ ^*", "a @^@ 5", "a @ 5 ^6", "a @ ^", "a @ ^-1", "a @ ^(5)", "a @ ^any"} {
		wrongLeft(t, s, api.Syntax)
	}
	wrong(t, "class a = any ^@ 5;", api.Syntax)
	wrong(t, "line ^@ 5 : / ;", api.Syntax)
	wrong(t, "line 5 ^@ 5 : / ;", api.Syntax)
	// The next Rule's Left may have weights again.
	fine(t, abc+"line 7 : a @ 5 / a;hyphen 7 : a @ 5 / a;")
	wrong(t, abc+"line 7 : a @ 5 / a;hyphen 7 : a @ 5 / a ^@ 5;", api.Weighted)
}

// What is missing at the end, or stands where it may not.
func TestWhatMayNotStandThere(t *testing.T) {
	for _, s := range []string{
		"^any", "^a", "^5", "^'a'", "^;", "^:", "^/", "^(", "^!", "^?", "^class1", "class^", "class ^=", "class ^5", "class ^'a'", "class a^", "class a ^:", "class a ^any",
		"class a ^;", "class a = ^", "class a = ^;", "class a = ^=", "class a = ^|", "class a = ^&", "class a = ^-", "class a = ^)", "class a = ^5", "class a = (^)",
		"class a = any^", "class a = 'b'^", "class a = U+41^", "class a = 'b'..'c'^", "class a = any ^any", "class a = any ^'a'", "class a = any ^(", "class a = any ^!any", "class a = any ^)", "class a = any ^.", "class a = any ^=",
		"class a = any ^:", "class a = any ^/", "class a = any ^*", "class a = any ^,", "class a = any ^?", "class a = any | ^", "class a = any | ^| any", "class a = any & ^;",
		"class a = any - ^- any", "class a = !^", "class a = !^;", "class a = !^|", "class a = (any^", "class a = (any^;", "class a = (any ^any", "class a = (any | ^)",
		"class a = (any)^)", "class a = (any)^(", "class a = any;^;", "class a = any;^any", "class a = any ^line 5 : / ;",
		"line^", "line ^line", "line ^:", "line ^a", "line ^'5'", "line ^-5", "line 5^", "line 5 ^/", "line 5 ^5", "line 5 ^;", "line 5 :^", "line 5 : ^:", "line 5 : ^;",
		"line 5 : /^", "line 5 : / ^/", "line 5 : / ^:", "line 5 : / ;^;", "line 5 : / ;^/", "line 5 : ^*", "line 5 : | ^*", "line 5 : .^;", "line 5 : . ^line 5",
		"line 5 : ^, / ;", "line 5 : ^= / ;", "line 5 : ^! / ;", "line 5 : ^& / ;", "line 5 : ^- / ;", "line 5 : ^} / ;", "line 5 : ^? / ;", "line 5 : .^? / ;", "line 5 : ^'a' / ;",
		"line 5 : ^5 / ;", "line 5 : (^", "line 5 : (^/", "line 5 : (^;", "line 5 : (.^", "line 5 : (.^/", "line 5 : (. | ^", "line 5 : ^)", "line 5 : .^) / ;", "line 5 : ()^)",
		"line 5 : / (^", "line 5 : / (^;", "line 5 : / .^", "line 5 : / .^)", "line 5 : / . | ^", "line 5 : / ^class", "line 5 : / ^line", "hyphen^", "hyphen 5 : /^", "emergency^", "emergency 5^",
	} {
		wrong(t, s, api.Syntax)
	}
}

// The end, where it may not be: behind blanks and remarks, too.
func TestEnds(t *testing.T) {
	signs := wholeSigns()
	s, top := "", true
	for i, sign := range signs {
		for _, behind := range []string{"", " ", "\n\n", "# x", " # x\n ", "#"} {
			if got := s + behind; top {
				fine(t, got)
			} else {
				wrongAt(t, got, len(got), api.Syntax)
			}
		}
		s += sign + " "
		top = sign == ";"
		if i == len(signs)-1 && !top {
			t.Error("the whole ends somewhere else")
		}
	}
}

// The first sign that has a fault decides, whatever is behind it.
func TestFirstSign(t *testing.T) {
	for _, s := range []string{
		"^? class a = a; abcdefghijklm", "class a = ^b | 1000001 $", "class a = any | ^? b", "class a = any;class ^a = b abcdefghijklm",
		"class a = any;line 5 : ^b / a @ 5", "class a = any;line 5 : a^? / a @ 5 b",
		"class a = any;line 5 : a / a ^@ b 1000001", "class a = any;line 5 : a{3,^13} b $", "class a = any;line 5 : ^1000001 b $ a{3,2}",
	} {
		e := api.Syntax
		switch {
		case strings.Contains(s, "^b"):
			e = api.NoName
		case strings.Contains(s, "^a"):
			e = api.Twice
		case strings.Contains(s, "^@"):
			e = api.Weighted
		case strings.Contains(s, "^1"):
			e = api.Large
		}
		wrong(t, s, e)
	}
}
