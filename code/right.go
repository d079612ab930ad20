package code

import (
	"strings"

	"tabula/api"
	"tabula/dec"
	"tabula/letters"
	"tabula/ref"
)

// The most names that an instruction or a block has, and the most that a number of an instruction is.
const (
	maxHeld   = 40
	maxParams = 400
	maxNumber = 400
)

// Right says whether c has blocks within the limits, of right instructions, that find their values and names whichever way is gone.
func Right(c api.Code) bool {
	blocks, all := len(c.Blocks), 0
	if blocks < 1 || blocks > api.MaxBlock || len(c.Params) != blocks || c.Params[0] != "" {
		return false
	}
	for i, block := range c.Blocks {
		all += len(block)
		if all > api.MaxIns || !areNames(c.Params[i], maxParams) {
			return false
		}
		for _, x := range block {
			if !isIns(x) || x.Op == api.InFunc && (x.A <= i || x.A >= blocks) {
				return false
			}
		}
		if !isBalanced(block) {
			return false
		}
	}
	return true
}

// isIns takes the fields away that are named for the kind: nothing may be left. Which blocks a function may have is left to who knows them.
func isIns(x api.Ins) bool {
	rest, ok := x, false
	switch x.Op {
	case api.InNum:
		rest.N, ok = api.Dec{}, dec.Right(x.N)
	case api.InText:
		rest.S, ok = "", len(x.S) <= api.MaxText && letters.IsText(x.S)
	case api.InTruth:
		rest.A, ok = 0, isFrom(0, x.A, 1)
	case api.InFault:
		rest.A, ok = 0, isFrom(api.VNull, x.A, api.VCirc)
	case api.InRef:
		rest.Ref, ok = api.Ref{}, ref.Right(x.Ref)
	case api.InRange:
		rest.Ref, rest.To, ok = api.Ref{}, api.Ref{}, ref.Right(x.Ref) && ref.Right(x.To)
	case api.InEmpty:
		ok = true
	case api.InOp, api.InAhead, api.InBack:
		rest.S, ok = "", isOperator(x.Op, x.S)
	case api.InCall:
		rest.S, rest.A, ok = "", 0, isName(x.S) && isFrom(0, x.A, maxNumber)
	case api.InArray:
		rest.A, rest.B, ok = 0, 0, isFrom(1, x.A, maxNumber) && isFrom(1, x.B, maxNumber)
	case api.InUnless:
		rest.A, rest.B, ok = 0, 0, isFrom(0, x.A, maxNumber) && isFrom(0, x.B, maxNumber)
	case api.InGo, api.InApply, api.InForget:
		rest.A, ok = 0, isFrom(0, x.A, maxNumber)
	case api.InFunc:
		rest.A, rest.S, ok = 0, "", isHeld(x.S)
	case api.InKeep, api.InGet:
		rest.S, ok = "", isName(x.S)
	}
	rest.Op = 0
	return ok && rest == api.Ins{}
}

func isFrom(least int, n int, most int) bool {
	return n >= least && n <= most
}

func isOperator(kind int, s string) bool {
	switch s {
	case "+", "-":
		return kind == api.InOp || kind == api.InAhead
	case "=", "<>", "<", "<=", ">", ">=", "&", "*", "/", "^":
		return kind == api.InOp
	case "%":
		return kind == api.InBack
	}
	return false
}

func isName(s string) bool {
	if s == "" || len(s) > api.MaxName {
		return false
	}
	for _, c := range []byte(s) {
		if c == ',' || c == ';' || c <= ' ' {
			return false
		}
	}
	return true
}

func areNames(s string, most int) bool {
	if s == "" {
		return true
	}
	if strings.Count(s, ",") >= most {
		return false
	}
	for _, name := range strings.Split(s, ",") {
		if !isName(name) {
			return false
		}
	}
	return true
}

// isHeld holds of what a function holds, with its own name behind a semicolon, if it has one.
func isHeld(s string) bool {
	names, own, found := strings.Cut(s, ";")
	return areNames(names, maxHeld) && (!found || isName(own))
}

// height is how many values lie on the stack, and how many names are kept, where a way has come to.
type height struct {
	reached bool
	values  int
	names   int
}

// isBalanced goes through a block once: as no jump leads back, all ways to an instruction are known when it comes.
func isBalanced(block []api.Ins) bool {
	heights := make([]height, len(block)+1)
	heights[0].reached = true
	reach := func(at int, further int, h height) bool {
		if further > len(block)-at {
			return false
		}
		to := &heights[at+further]
		if to.reached {
			return *to == h
		}
		*to = h
		return true
	}
	for i, x := range block {
		h, ok := after(x, heights[i])
		if !ok {
			return false
		}
		switch x.Op {
		case api.InUnless:
			fault := h
			fault.values++
			ok = reach(i+1, 0, h) && reach(i+1, x.A, h) && reach(i+1, x.B, fault)
		case api.InGo:
			ok = reach(i+1, x.A, h)
		default:
			ok = reach(i+1, 0, h)
		}
		if !ok {
			return false
		}
	}
	return heights[len(block)] == height{reached: true, values: 1}
}

// after is the height behind an instruction; false, if it finds too little.
func after(x api.Ins, h height) (height, bool) {
	takes, lays := 0, 1
	switch x.Op {
	case api.InOp:
		takes = 2
	case api.InAhead, api.InBack:
		takes = 1
	case api.InCall:
		takes = x.A
	case api.InArray:
		takes = x.A * x.B
	case api.InApply:
		takes = x.A + 1
	case api.InUnless:
		takes, lays = 1, 0
	case api.InKeep:
		takes, lays = 1, 0
		h.names++
	case api.InGo:
		lays = 0
	case api.InForget:
		lays = 0
		h.names -= x.A
	}
	h.values -= takes
	ok := h.reached && h.values >= 0 && h.names >= 0
	h.values += lays
	return h, ok
}
