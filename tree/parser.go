package tree

import (
	"strings"

	"tabula/api"
	"tabula/dec"
	"tabula/letters"
	"tabula/lex"
	"tabula/ref"
	"tabula/val"
)

// wrong is the number of the first piece that can't stand where it is.
type wrong struct {
	at int
}

// parser asks for no piece ahead of the one that it takes, but for the comma behind a name: so it fails at the first piece that nothing behind it could save.
type parser struct {
	l  []api.Tok
	at int
}

func (p *parser) fail() {
	panic(wrong{p.at})
}

// formula takes operators that are at least so tight; what is none is less tight than any.
func (p *parser) formula(least int) *branch {
	left := p.backed()
	for {
		op := p.sign()
		tight := tightness(op)
		if tight < least {
			return left
		}
		p.at++
		right := p.formula(tight + 1)
		left = grown(api.Node{Kind: api.NOp, S: op}, left, right)
	}
}

func (p *parser) backed() *branch {
	b := p.headed()
	for p.takes("%") {
		b = grown(api.Node{Kind: api.NBack, S: "%"}, b)
	}
	return b
}

func (p *parser) headed() *branch {
	s := p.sign()
	if !isAhead(s) {
		return p.operand()
	}
	p.at++
	return grown(api.Node{Kind: api.NAhead, S: s}, p.headed())
}

func (p *parser) operand() *branch {
	var b *branch
	switch {
	case p.kind() == api.TkCall:
		b = p.call()
	case p.sign() == "(":
		b = &branch{}
		p.inside(b, p.group)
	case p.sign() == "{":
		return p.array()
	default:
		return p.leaf()
	}
	for p.sign() == "(" {
		b = grown(api.Node{Kind: api.NApply}, b)
		p.inside(b, p.kids)
	}
	return b
}

func (p *parser) call() *branch {
	name := letters.Great(p.l[p.at].S)
	b, read := grown(api.Node{Kind: api.NCall, S: name}), p.kids
	switch {
	case name == "LAMBDA":
		b, read = grown(api.Node{Kind: api.NFunc}), p.function
	case name == "LET":
		b, read = grown(api.Node{Kind: api.NLet}), p.let
	case !isCall(name):
		p.fail()
	}
	p.at++
	p.inside(b, read)
	return b
}

// inside reads into a branch what stands in parentheses.
func (p *parser) inside(b *branch, read func(*branch)) {
	p.take("(")
	read(b)
	p.take(")")
}

func (p *parser) group(b *branch) {
	*b = *p.formula(1)
}

func (p *parser) kids(b *branch) {
	if p.sign() == ")" {
		return
	}
	b.add(p.formula(1))
	for p.takes(",") {
		b.add(p.formula(1))
	}
}

func (p *parser) function(b *branch) {
	var names []string
	met := map[string]bool{}
	for p.isNamed() {
		names = append(names, p.name(met))
	}
	b.node.S = strings.Join(names, ",")
	b.add(p.formula(1))
}

func (p *parser) let(b *branch) {
	var names []string
	met := map[string]bool{}
	for len(names) == 0 || p.isNamed() {
		names = append(names, p.name(met))
		b.add(p.formula(1))
		p.take(",")
	}
	b.node.S = strings.Join(names, ",")
	b.add(p.formula(1))
}

// isNamed says whether a name stands here that its comma makes one of a LAMBDA or a LET.
func (p *parser) isNamed() bool {
	if p.kind() != api.TkName || p.at+1 == len(p.l) {
		return false
	}
	next := p.l[p.at+1]
	return next.Kind == api.TkSign && next.S == ","
}

// name takes a name and its comma. One that was met ahead might still be a kid: what can't stand is the comma.
func (p *parser) name(met map[string]bool) string {
	if p.kind() != api.TkName || !lex.IsName(p.l[p.at].S) {
		p.fail()
	}
	name := p.l[p.at].S
	p.at++
	if met[letters.Great(name)] {
		p.fail()
	}
	p.take(",")
	met[letters.Great(name)] = true
	return name
}

func (p *parser) array() *branch {
	p.take("{")
	b := grown(api.Node{Kind: api.NArray, Rows: 1})
	cols := p.row(b, 0)
	for p.takes(";") {
		b.node.Rows++
		p.row(b, cols)
	}
	p.take("}")
	return b
}

// row takes as many constants as the first row had, which may have any number (0).
func (p *parser) row(b *branch, cols int) int {
	p.constant(b)
	n := 1
	for n != cols && p.takes(",") {
		p.constant(b)
		n++
	}
	if n < cols {
		p.fail()
	}
	return n
}

func (p *parser) constant(b *branch) {
	minus := p.takes("-")
	switch kind := p.kind(); {
	case kind == api.TkNum && minus:
		b.add(grown(api.Node{Kind: api.NAhead, S: "-"}, p.leaf()))
	case !minus && (kind == api.TkNum || kind == api.TkText || kind == api.TkTruth || kind == api.TkFault):
		b.add(p.leaf())
	default:
		p.fail()
	}
}

func (p *parser) leaf() *branch {
	if p.at == len(p.l) {
		p.fail()
	}
	n, ok := leaf(p.l[p.at])
	if !ok {
		p.fail()
	}
	p.at++
	if n.Kind == api.NRef && !n.Ref.Bad && p.takes(":") {
		n = p.end(n.Ref)
	}
	return grown(n)
}

// end takes a range's second reference.
func (p *parser) end(from api.Ref) api.Node {
	if p.kind() != api.TkRef {
		p.fail()
	}
	to, err := ref.Read(p.l[p.at].S)
	if err != api.OK || !isRange(from, to) {
		p.fail()
	}
	p.at++
	return api.Node{Kind: api.NRange, Ref: from, To: to}
}

// leaf is the tree of a piece that is one alone; false, if there is none.
func leaf(tok api.Tok) (api.Node, bool) {
	n, ok := api.Node{S: tok.S}, true
	switch tok.Kind {
	case api.TkNum:
		x, err := dec.Read(tok.S)
		n, ok = api.Node{Kind: api.NNum, N: x}, err == api.OK
	case api.TkText:
		n.Kind = api.NText
	case api.TkTruth:
		v, _ := val.Read(tok.S)
		n, ok = api.Node{Kind: api.NTruth, B: v.B}, v.Kind == api.Truth
	case api.TkFault:
		v, _ := val.Read(tok.S)
		n, ok = api.Node{Kind: api.NFault, Err: v.Err}, v.Kind == api.Fault
	case api.TkRef:
		r, err := ref.Read(tok.S)
		n, ok = api.Node{Kind: api.NRef, Ref: r}, err == api.OK
	case api.TkName:
		n.Kind = api.NName
	case api.TkCol:
		n.Kind = api.NCol
	}
	return n, ok && isNode(n)
}

// kind is that of the piece that stands here; 0, if all are taken.
func (p *parser) kind() int {
	if p.at == len(p.l) {
		return 0
	}
	return p.l[p.at].Kind
}

// sign is the sign that stands here; empty, if there is none.
func (p *parser) sign() string {
	if p.kind() != api.TkSign {
		return ""
	}
	return p.l[p.at].S
}

func (p *parser) takes(sign string) bool {
	if p.sign() != sign {
		return false
	}
	p.at++
	return true
}

func (p *parser) take(sign string) {
	if !p.takes(sign) {
		p.fail()
	}
}
