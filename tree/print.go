package tree

import (
	"strings"

	"tabula/api"
	"tabula/dec"
	"tabula/ref"
	"tabula/val"
)

func written(n api.Node) string {
	switch n.Kind {
	case api.NOp:
		return within(n.Kids[0], tight(n)) + n.S + within(n.Kids[1], tight(n)+1)
	case api.NAhead:
		return n.S + within(n.Kids[0], tight(n))
	case api.NBack:
		return within(n.Kids[0], tight(n)) + n.S
	case api.NCall:
		return n.S + "(" + list(n.Kids) + ")"
	case api.NArray:
		return "{" + rows(n) + "}"
	case api.NFunc:
		return "LAMBDA(" + named(n) + ")"
	case api.NLet:
		return "LET(" + named(n) + ")"
	case api.NApply:
		return called(n.Kids[0]) + "(" + list(n.Kids[1:]) + ")"
	}
	return leafText(n)
}

// leafText is how a node is written that has no kids.
func leafText(n api.Node) string {
	s := n.S
	switch n.Kind {
	case api.NNum:
		s, _ = dec.Text(n.N)
	case api.NText:
		s = `"` + strings.ReplaceAll(n.S, `"`, `""`) + `"`
	case api.NTruth:
		s, _ = val.Text(api.Val{Kind: api.Truth, B: n.B})
	case api.NFault:
		s, _ = val.Text(api.Val{Kind: api.Fault, Err: n.Err})
	case api.NRef:
		s, _ = ref.Text(n.Ref)
	case api.NRange:
		from, _ := ref.Text(n.Ref)
		to, _ := ref.Text(n.To)
		s = from + ":" + to
	}
	return s
}

func tight(n api.Node) int {
	switch n.Kind {
	case api.NOp:
		return tightness(n.S)
	case api.NBack:
		return tightBack
	case api.NAhead:
		return tightAhead
	}
	return tightest
}

// within has parentheses around a kid that is less tight than it has to be.
func within(kid api.Node, least int) string {
	if tight(kid) < least {
		return "(" + written(kid) + ")"
	}
	return written(kid)
}

func called(kid api.Node) string {
	switch kid.Kind {
	case api.NCall, api.NFunc, api.NLet, api.NApply:
		return written(kid)
	}
	return "(" + written(kid) + ")"
}

func list(kids []api.Node) string {
	var parts []string
	for _, kid := range kids {
		parts = append(parts, written(kid))
	}
	return strings.Join(parts, ",")
}

func rows(n api.Node) string {
	cols := len(n.Kids) / n.Rows
	var parts []string
	for row := range n.Rows {
		parts = append(parts, list(n.Kids[row*cols:(row+1)*cols]))
	}
	return strings.Join(parts, ";")
}

// named has each name ahead of the kid it belongs to: of a LET its own one, of a LAMBDA the only one.
func named(n api.Node) string {
	var parts []string
	if n.Kind == api.NFunc && n.S != "" {
		parts = append(parts, n.S)
	}
	names := strings.Split(n.S, ",")
	for i, kid := range n.Kids {
		if n.Kind == api.NLet && i < len(names) {
			parts = append(parts, names[i])
		}
		parts = append(parts, written(kid))
	}
	return strings.Join(parts, ",")
}
