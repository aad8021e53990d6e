package syn

import (
	"strings"
	"testing"

	"hyphen/api"
)

// A text with every sign that rules may have.
const whole = "class a = 'a'..'z' | U+E9 - 'q' & !(any);class b = !a;" +
	"line 7 : (a b | .)* any{2,3} @ 5 / a{0,1}*;hyphen 0 : /b;emergency 1000000 : a|/();"

func wholeFile() api.File {
	return api.File{
		Defs: []api.Def{
			{Name: "a", C: two(api.CLess, two(api.COr, span('a', 'z'), span(0xe9, 0xe9)), two(api.CAnd, span('q', 'q'), not(all())))},
			{Name: "b", C: not(named("a"))},
		},
		Rules: []api.Rule{
			{Cat: 0, Cost: 7, Left: cat(star(alt(cat(one("a"), one("b")), dot())), cost(times(dot(), 2, 3), 5)), Right: star(times(one("a"), 0, 1))},
			{Cat: 1, Cost: 0, Left: none(), Right: one("b")},
			{Cat: 2, Cost: 1000000, Left: alt(one("a"), none()), Right: none()},
		},
	}
}

// wholeSigns is whole, sign by sign.
func wholeSigns() []string {
	return strings.Fields("class a = 'a' . . 'z' | U+E9 - 'q' & ! ( any ) ; class b = ! a ; " +
		"line 7 : ( a b | . ) * any { 2 , 3 } @ 5 / a { 0 , 1 } * ; hyphen 0 : / b ; emergency 1000000 : a | / ( ) ;")
}

func TestNothing(t *testing.T) {
	for _, s := range []string{"", " ", "\n", " \n  \n", "#", "#\n", "# no\n#\n #", "#'\"\xff\x00\r\t any class ;", "\n#\n\n"} {
		reads(t, s, api.File{})
	}
}

func TestWhole(t *testing.T) {
	reads(t, whole, wholeFile())
}

// Blanks, line feeds and remarks may stand between any signs, ahead of the first one and behind the last one.
func TestBetween(t *testing.T) {
	for _, between := range []string{" ", "\n", "  ", "\n\n", "#\n", "# class ; '\xff\r\t#\x00 é\n", " # x\n ", "\n#\n#\n"} {
		reads(t, between+strings.Join(wholeSigns(), between)+between, wholeFile())
		reads(t, strings.Join(wholeSigns(), between)+"# at the end", wholeFile())
		reads(t, strings.Join(wholeSigns(), between)+"#", wholeFile())
	}
}

// No blank is needed but where two signs would be one.
func TestNoBlanks(t *testing.T) {
	reads(t, "class a='a';line 5:a@7a*.{1,2}any/;hyphen 5:/;", api.File{
		Defs: []api.Def{{Name: "a", C: span('a', 'a')}},
		Rules: []api.Rule{
			{Cat: 0, Cost: 5, Left: cat(cat(cat(cost(one("a"), 7), star(one("a"))), times(dot(), 1, 2)), dot()), Right: none()},
			{Cat: 1, Cost: 5, Left: none(), Right: none()},
		},
	})
	reads(t, "class a='a'|'#'|U+41|' ';#'\nline#:\n5:/;", api.File{
		Defs:  []api.Def{{Name: "a", C: two(api.COr, two(api.COr, two(api.COr, span('a', 'a'), span('#', '#')), span('A', 'A')), span(' ', ' '))}},
		Rules: []api.Rule{{Cat: 0, Cost: 5, Left: none(), Right: none()}},
	})
}

// A remark ends a word, a number; it does not begin within quotes.
func TestRemarkParts(t *testing.T) {
	wrong(t, "class ab#\n^cd = any;", api.Syntax)
	wrong(t, "line 1#\n^2 : / ;", api.Syntax)
	wrong(t, "class a = U+4#\n^1;", api.Syntax)
	wrong(t, "class a = any # ; \r any\n^", api.Syntax)
	wrong(t, "class a = ^'#;'", api.Syntax)
	fine(t, "class a = '#';# '\n")
}

// Blanks, line feeds and remarks alone are passed over: every other byte is a sign, or a fault.
func TestEveryByte(t *testing.T) {
	for c := range 256 {
		b := string([]byte{byte(c)})
		if c == ' ' || c == '\n' || c == '#' {
			fine(t, b)
			fine(t, "class a = any;"+b)
		} else {
			wrong(t, "^"+b, api.Syntax)
			wrong(t, "class a = any;^"+b, api.Syntax)
		}
		fine(t, "class a#"+b+"\n= any;")
	}
}

// One byte 32 to 126 may stand in quotes.
func TestQuotes(t *testing.T) {
	for c := range 256 {
		s := "class a = '" + string([]byte{byte(c)}) + "';"
		if c >= 32 && c <= 126 {
			reads(t, s, api.File{Defs: []api.Def{{Name: "a", C: span(c, c)}}})
		} else {
			wrongAt(t, s, 10, api.Syntax)
		}
	}
	for _, s := range []string{"^'", "^''", "^'a", "^'ab'", "^'' ;", "^'a ';", "^'\u00e9';", "^\"a\";", "'a'^'b';", "'a'^';", "'''^'"} {
		wrong(t, "class a = "+s, api.Syntax)
	}
	reads(t, "class a = '''|'#';", api.File{Defs: []api.Def{{Name: "a", C: two(api.COr, span('\'', '\''), span('#', '#'))}}})
}

// U+, and 1 to 6 digits of sixteen.
func TestCodes(t *testing.T) {
	for s, n := range map[string]int{
		"0": 0, "00": 0, "000000": 0, "9": 9, "A": 10, "F": 15, "1F": 31, "0061": 'a', "000061": 'a', "7FF": 0x7ff, "ABCD": 0xabcd, "EF09": 0xef09,
		"D7FF": 0xd7ff, "D800": 0xd800, "DABC": 0xdabc, "DFFF": 0xdfff, "E000": 0xe000, "FFFF": 0xffff, "10000": 0x10000, "0FFFFF": 0xfffff,
		"10FFFE": 0x10fffe, "10FFFF": api.Last,
	} {
		reads(t, "class a = U+"+s+";", api.File{Defs: []api.Def{{Name: "a", C: span(n, n)}}})
	}
	for c := range 256 {
		s := "class a = U+" + string([]byte{byte(c)}) + ";"
		if strings.Contains("0123456789ABCDEF", s[12:13]) {
			fine(t, s)
		} else {
			wrongAt(t, s, 10, api.Syntax)
		}
	}
	for _, s := range []string{"110000", "11FFFF", "200000", "999999", "FFFFFF", "110000..U+120000", "1234567"} {
		wrong(t, "class a = ^U+"+s+";", api.Large)
		wrong(t, "class a = 'b'..^U+"+s+";", api.Large)
		wrong(t, "class a = any;line 5 : a ^U+"+s, api.Large)
		wrong(t, "^U+"+s, api.Large)
	}
	for _, s := range []string{
		"^U", "^U+", "^U+;", "^U 41", "^U+ 41", "^U-41", "^U41", "^U+g", "^U+-1", "^U+_1", "^UU+41", "U+41^G", "U+4^a", "U+E^e", "^+41",
		"U+000000^61", "U+10FFFF^0", "U+000000^0000", "U+41^U+42",
	} {
		wrong(t, "class a = "+s, api.Syntax)
	}
	wrong(t, "class a = ^u+41;", api.NoName)
}

// A word is as long as may be; a name has 1 to 12 bytes, and is no key word.
func TestWords(t *testing.T) {
	for _, name := range []string{
		"a", "z", "a0", "z9", "a1b2", "abcdefghijkl", "emergencyone", "a00000000000", "anyx", "any0", "an", "classy", "clas", "class1",
		"lines", "lin", "line1", "hyphens", "hyphe", "hyphen2", "emergency1", "emergenc",
	} {
		reads(t, "class "+name+" = any;class x = "+name+";line 5 : "+name+" / "+name+";", api.File{
			Defs:  []api.Def{{Name: name, C: all()}, {Name: "x", C: named(name)}},
			Rules: []api.Rule{{Cat: 0, Cost: 5, Left: one(name), Right: one(name)}},
		})
	}
	for _, word := range []string{"class", "emergency", "hyphen", "line"} {
		wrong(t, "class ^"+word+" = any;", api.Syntax)
		wrongClass(t, "^"+word+";", api.Syntax)
		wrongClass(t, "any | ^"+word+";", api.Syntax)
		wrongLeft(t, "^"+word+" / ;", api.Syntax)
		wrongLeft(t, "a ^"+word+" / ;", api.Syntax)
		wrongRight(t, "(^"+word+");", api.Syntax)
	}
	wrong(t, "class ^any = any;", api.Syntax)
	for _, s := range []string{"^A", "^_a", "a^A", "a^_b", "a^-b", "^\u00e4", "^0a", "a^\u00e9"} {
		wrong(t, "class "+s+" = any;", api.Syntax)
	}
}

// asked marks a place of each kind in a text.
func asked() []string {
	return []string{
		"^", "class ^", "class a ^", "class a = ^", "class a = any ^", "class a = 'b'.^", "class a = 'b'..^", "class a = (^", "class a = !^",
		"line ^", "line 5 ^", "line 5 : ^", "line 5 : . ^", "line 5 : . | ^", "line 5 : .{^", "line 5 : .{5 ^", "line 5 : .{5,^", "line 5 : .{5,5 ^",
		"line 5 : .@^", "line 5 : (^", "line 5 : / ^", "line 5 : / (^", "line 5 : / .^", "line 5 : / ;^",
	}
}

// A word of more than 12 bytes, a number above 1000000, a scalar above 10FFFF are Large wherever they stand.
func TestLargeWhereverItStands(t *testing.T) {
	for _, large := range []string{
		"abcdefghijklm", "a000000000000", "emergencyemergency", "any0123456789", "classclassclass", strings.Repeat("x", 3000),
		"1000001", "0001000001", "9999999", "4294967296", "4294967303", "9223372036854775807", "9223372036854775808", "18446744073709551616",
		"18446744073709551623", strings.Repeat("9", 3000), "U+110000", "U+FFFFFF", "U+999999",
	} {
		for _, s := range asked() {
			wrong(t, s+large, api.Large)
			wrong(t, s+large+" $ x 5 any", api.Large)
		}
	}
}

// Numbers up to 1000000, however they are written.
func TestNumbers(t *testing.T) {
	for s, n := range map[string]int{
		"0": 0, "00": 0, "1": 1, "007": 7, "12": 12, "999999": 999999, "1000000": 1000000, "0001000000": 1000000, strings.Repeat("0", 1000) + "9": 9,
	} {
		reads(t, "hyphen "+s+" : . @ "+s+" / ;", api.File{Rules: []api.Rule{{Cat: 1, Cost: n, Left: cost(dot(), n), Right: none()}}})
		if n <= api.MaxTimes {
			reads(t, "line 5 : .{"+s+","+s+"}/;", api.File{Rules: []api.Rule{{Cat: 0, Cost: 5, Left: times(dot(), n, n), Right: none()}}})
		}
	}
}

// A second scalar is no less than the first.
func TestSpans(t *testing.T) {
	for s, c := range map[string]api.Class{
		"'a'..'a'": span('a', 'a'), "'a'..'b'": span('a', 'b'), "' '..'~'": span(' ', '~'), "'a' . . 'z'": span('a', 'z'), "'a'.#\n.'z'": span('a', 'z'),
		"U+0..U+10FFFF": span(0, api.Last), "U+D800..U+DFFF": span(0xd800, 0xdfff), "U+DFFF..U+DFFF": span(0xdfff, 0xdfff), "U+0..' '": span(0, ' '),
		"'~'..U+7F": span('~', 0x7f), "'.'..'.'": span('.', '.'),
	} {
		reads(t, "class a = "+s+";", api.File{Defs: []api.Def{{Name: "a", C: c}}})
	}
	for _, s := range []string{
		"'b'..^'a';", "U+10FFFF..^U+10FFFE;", "U+1..^U+0;", "'b'..^U+0", "U+DFFF..^U+D800", "'b' . . ^'a'", "'b'.^'c'", "'b'.^;", "'b'..^;",
		"'b'..^.'c'", "'b'..^y", "'b'..^any", "'b'..^5", "'b'..^(", "'b'..^!", "'b'..'c'^..'d'", "'b'..'c'^.", "^.", "^..'a'", "y^..'a'",
		"any^..'a'", "('a')^..'b'", "'b'.^", "'b'..^",
	} {
		wrongClass(t, s, api.Syntax)
	}
	wrongClass(t, "'b'..^U+110000;", api.Large)
	wrongClass(t, "^U+110000..'b';", api.Large)
}
