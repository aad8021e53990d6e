package syn

import (
	"hyphen/api"
)

// fault is what is wrong first, and where.
type fault struct {
	place int
	e     api.Errno
}

// reader goes from sign to sign up to the first fault; its sign is the one that stands next.
type reader struct {
	source
	sign
	fault
}

// step goes over the sign that stands next.
func (r *reader) step() {
	if r.e != api.OK {
		return
	}
	r.sign = r.next()
	if r.large {
		r.fail(api.Large)
	}
}

// fail says what is wrong with the sign that stands next; nothing stands there from then on.
func (r *reader) fail(e api.Errno) {
	if r.e == api.OK {
		r.fault = fault{r.at, e}
	}
	// A sign that fits nowhere ends every loop: no reading needs to ask for faults.
	r.sign = sign{kind: noSign}
}

// take goes over a sign of that kind, and tells it.
func (r *reader) take(k kind) sign {
	g := r.sign
	if g.kind != k {
		r.fail(api.Syntax)
		return sign{}
	}
	r.step()
	return g
}

// parser reads rules, and gathers them.
type parser struct {
	reader
	api.File
	deep int // how many brackets and nots are open
}

// defs reads the Defs.
func (p *parser) defs() {
	for p.kind == classWord {
		if len(p.Defs) == api.MaxSets {
			p.fail(api.Large)
			return
		}
		p.Defs = append(p.Defs, p.def())
	}
}

// def reads one Def.
func (p *parser) def() api.Def {
	p.take(classWord)
	d := api.Def{Name: p.fresh()}
	p.take('=')
	d.C = p.class()
	p.take(';')
	return d
}

// fresh reads a name that no Def has yet.
func (p *parser) fresh() string {
	if p.kind == nameWord && defined(p.Defs, p.word) >= 0 {
		p.fail(api.Twice)
	}
	return p.take(nameWord).word
}

// known reads a name that a Def has.
func (p *parser) known() string {
	if p.kind == nameWord && defined(p.Defs, p.word) < 0 {
		p.fail(api.NoName)
	}
	return p.take(nameWord).word
}

// enter goes over a sign that others are within.
func (p *parser) enter() {
	if p.deep == api.MaxDeep {
		p.fail(api.Large)
	}
	p.deep++
	p.step()
}

// leave says that nothing more is within the sign entered last.
func (p *parser) leave() {
	p.deep--
}

// class reads a set: any many, side by side, of which some are added, some taken away.
func (p *parser) class() api.Class {
	c := p.common()
	for p.kind == '|' || p.kind == '-' {
		k := api.COr
		if p.kind == '-' {
			k = api.CLess
		}
		p.step()
		c = api.Class{Kind: k, L: []api.Class{c, p.common()}}
	}
	return c
}

// common reads what several sets have in common.
func (p *parser) common() api.Class {
	c := p.not()
	for p.kind == '&' {
		p.step()
		c = api.Class{Kind: api.CAnd, L: []api.Class{c, p.not()}}
	}
	return c
}

// not reads a set with any many nots ahead.
func (p *parser) not() api.Class {
	if p.kind != '!' {
		return p.plain()
	}
	p.enter()
	c := api.Class{Kind: api.CNot, L: []api.Class{p.not()}}
	p.leave()
	return c
}

// plain reads a set that holds together by itself.
func (p *parser) plain() api.Class {
	switch p.kind {
	case scalar:
		return p.span()
	case nameWord:
		return api.Class{Kind: api.CName, Name: p.known()}
	case anyWord:
		p.step()
		return api.Class{Kind: api.CAny}
	case '(':
		p.enter()
		c := p.class()
		p.take(')')
		p.leave()
		return c
	}
	p.fail(api.Syntax)
	return api.Class{}
}

// span reads a scalar, or those from one to another.
func (p *parser) span() api.Class {
	lo := p.take(scalar).n
	if p.kind != '.' {
		return api.Class{Kind: api.CRange, Lo: lo, Hi: lo}
	}
	p.take('.')
	p.take('.')
	if p.kind == scalar && p.n < lo {
		p.fail(api.Syntax)
	}
	return api.Class{Kind: api.CRange, Lo: lo, Hi: p.take(scalar).n}
}

// rules reads the Rules, up to the text's end.
func (p *parser) rules() {
	for p.kind >= lineWord && p.kind <= emergencyWord {
		if len(p.Rules) == api.MaxRules {
			p.fail(api.Large)
			return
		}
		p.Rules = append(p.Rules, p.rule())
	}
	p.take(ending)
}

// rule reads one Rule.
func (p *parser) rule() api.Rule {
	r := api.Rule{Cat: int(p.kind - lineWord)}
	p.step()
	r.Cost = p.take(number).n
	p.take(':')
	r.Left = side{p, true}.either()
	p.take('/')
	r.Right = side{p, false}.either()
	p.take(';')
	return r
}

// side reads a pattern of a Rule.
type side struct {
	*parser
	weighs bool // whether weights may stand in it
}

// either reads a pattern: one or more rows.
func (p side) either() api.Rex {
	x := p.row()
	for p.kind == '|' {
		p.step()
		x = api.Rex{Kind: api.RAlt, L: []api.Rex{x, p.row()}}
	}
	return x
}

// row reads parts side by side.
func (p side) row() api.Rex {
	if !p.begins() {
		return api.Rex{Kind: api.RNone}
	}
	x := p.part()
	for p.begins() {
		x = api.Rex{Kind: api.RCat, L: []api.Rex{x, p.part()}}
	}
	return x
}

// begins tells whether a part begins with the sign that stands next.
func (p side) begins() bool {
	switch p.kind {
	case nameWord, anyWord, '.', '(':
		return true
	}
	return false
}

// part reads a part, and what is said of it behind it.
func (p side) part() api.Rex {
	x := p.bare()
	for {
		switch p.kind {
		case '*':
			p.step()
			x = api.Rex{Kind: api.RStar, L: []api.Rex{x}}
		case '{':
			x = p.times(x)
		case '@':
			x = p.weight(x)
		default:
			return x
		}
	}
}

// bare reads a part by itself.
func (p side) bare() api.Rex {
	switch p.kind {
	case nameWord:
		return api.Rex{Kind: api.RSet, Name: p.known()}
	case '(':
		p.enter()
		x := p.either()
		p.take(')')
		p.leave()
		return x
	}
	p.step()
	return api.Rex{Kind: api.RAny}
}

// times reads how often x is to come.
func (p side) times(x api.Rex) api.Rex {
	p.take('{')
	lo := p.take(number).n
	p.take(',')
	// Asked ahead of which is less: too many is Large, either way.
	if p.kind == number && p.n > api.MaxTimes {
		p.fail(api.Large)
	}
	if p.kind == number && p.n < lo {
		p.fail(api.Syntax)
	}
	hi := p.take(number).n
	p.take('}')
	return api.Rex{Kind: api.RTimes, Lo: lo, Hi: hi, L: []api.Rex{x}}
}

// weight reads what x costs besides.
func (p side) weight(x api.Rex) api.Rex {
	if !p.weighs {
		p.fail(api.Weighted)
	}
	p.take('@')
	return api.Rex{Kind: api.RWeight, W: p.take(number).n, L: []api.Rex{x}}
}
