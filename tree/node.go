package tree

import (
	"strings"

	"tabula/api"
	"tabula/dec"
	"tabula/letters"
	"tabula/lex"
	"tabula/ref"
)

// isNode asks of the kids only what their parent needs.
func isNode(n api.Node) bool {
	rest, ok, kids := n, false, len(n.Kids)
	switch n.Kind {
	case api.NNum:
		rest.N, ok = api.Dec{}, kids == 0 && dec.Right(n.N) && n.N.M >= 0
	case api.NText:
		rest.S, ok = "", kids == 0 && len(n.S) <= api.MaxText && letters.IsText(n.S)
	case api.NTruth:
		rest.B, ok = false, kids == 0
	case api.NFault:
		rest.Err, ok = 0, kids == 0 && n.Err >= api.VNull && n.Err <= api.VCirc && n.Err != api.VRef
	case api.NRef:
		rest.Ref, ok = api.Ref{}, kids == 0 && ref.Right(n.Ref)
	case api.NRange:
		rest.Ref, rest.To, ok = api.Ref{}, api.Ref{}, kids == 0 && isRange(n.Ref, n.To)
	case api.NName:
		rest.S, ok = "", kids == 0 && lex.IsName(n.S)
	case api.NCol:
		rest.S, ok = "", kids == 0 && isColumn(n.S)
	case api.NOp:
		rest.S, ok = "", kids == 2 && tightness(n.S) > 0
	case api.NAhead:
		rest.S, ok = "", kids == 1 && isAhead(n.S)
	case api.NBack:
		rest.S, ok = "", kids == 1 && n.S == "%"
	case api.NCall:
		rest.S, ok = "", isCall(n.S)
	case api.NArray:
		rest.Rows, ok = 0, kids > 0 && n.Rows > 0 && kids%n.Rows == 0 && areConstants(n.Kids)
	case api.NFunc:
		rest.S, ok = "", kids == 1 && (n.S == "" || areNames(n.S))
	case api.NApply:
		ok = kids > 0
	case api.NLet:
		rest.S, ok = "", kids == strings.Count(n.S, ",")+2 && areNames(n.S)
	}
	rest.Kind, rest.Kids = 0, nil
	return ok && Same(rest, api.Node{})
}

func isRange(from api.Ref, to api.Ref) bool {
	return ref.Right(from) && ref.Right(to) && !from.Bad && !to.Bad && to.Sheet == ""
}

func isColumn(s string) bool {
	table, rest, _ := strings.Cut(s, "[")
	column, ends := strings.CutSuffix(rest, "]")
	if !ends || column == "" || len(column) > api.MaxName || strings.ContainsAny(column, "[]") {
		return false
	}
	return lex.IsName(table) && letters.IsText(column)
}

func isAhead(s string) bool {
	return s == "+" || s == "-"
}

// isCall holds of the names of calls that a node of their own is for: not of LAMBDA and LET.
func isCall(s string) bool {
	if s == "" || len(s) > api.MaxName || s == "LAMBDA" || s == "LET" {
		return false
	}
	for i, c := range s {
		switch {
		case c >= 'A' && c <= 'Z', c == '_':
		case (letters.IsDigit(c) || c == '.') && i > 0:
		default:
			return false
		}
	}
	return true
}

func areConstants(kids []api.Node) bool {
	for _, kid := range kids {
		switch kid.Kind {
		case api.NNum, api.NText, api.NTruth, api.NFault:
		case api.NAhead:
			if kid.S != "-" || len(kid.Kids) != 1 || kid.Kids[0].Kind != api.NNum {
				return false
			}
		default:
			return false
		}
	}
	return true
}

func areNames(s string) bool {
	met := map[string]bool{}
	for _, name := range strings.Split(s, ",") {
		if !lex.IsName(name) || met[letters.Great(name)] {
			return false
		}
		met[letters.Great(name)] = true
	}
	return true
}

// How tight nodes are that are no operators between two, of which the tightest is told by 5.
const (
	tightBack  = 6
	tightAhead = 7
	tightest   = 8
)

// tightness of an operator between two; 0, if s is none.
func tightness(s string) int {
	switch s {
	case "=", "<>", "<", "<=", ">", ">=":
		return 1
	case "&":
		return 2
	case "+", "-":
		return 3
	case "*", "/":
		return 4
	case "^":
		return 5
	}
	return 0
}
