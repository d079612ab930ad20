package code

import (
	"strings"

	"tabula/api"
	"tabula/letters"
)

// writer writes the instructions of one block, and knows the names that values are kept under there, in their order.
type writer struct {
	code  *api.Code
	ins   []api.Ins
	known []string
}

// block makes the next block of a code of what n is; its number is taken ahead of those within it.
func block(c *api.Code, n api.Node, params string, known []string) int {
	number := len(c.Blocks)
	c.Blocks = append(c.Blocks, nil)
	c.Params = append(c.Params, params)
	w := writer{code: c, known: known}
	w.write(n)
	c.Blocks[number] = w.ins
	return number
}

func (w *writer) write(n api.Node) {
	writes := map[int]func(api.Node){
		api.NNum:   w.constant,
		api.NText:  w.constant,
		api.NTruth: w.constant,
		api.NFault: w.constant,
		api.NRef:   w.read,
		api.NRange: w.read,
		api.NName:  w.name,
		api.NCol:   w.name,
		api.NOp:    w.operator,
		api.NAhead: w.operator,
		api.NBack:  w.operator,
		api.NCall:  w.call,
		api.NArray: w.array,
		api.NFunc:  w.function,
		api.NApply: w.apply,
		api.NLet:   w.let,
	}
	writes[n.Kind](n)
}

func (w *writer) add(x api.Ins) int {
	w.ins = append(w.ins, x)
	return len(w.ins) - 1
}

func (w *writer) all(kids []api.Node) {
	for _, kid := range kids {
		w.write(kid)
	}
}

func (w *writer) constant(n api.Node) {
	switch n.Kind {
	case api.NNum:
		w.add(api.Ins{Op: api.InNum, N: n.N})
	case api.NText:
		w.add(api.Ins{Op: api.InText, S: n.S})
	case api.NTruth:
		w.truth(n.B)
	case api.NFault:
		w.add(api.Ins{Op: api.InFault, A: n.Err})
	}
}

func (w *writer) truth(b bool) {
	x := api.Ins{Op: api.InTruth}
	if b {
		x.A = 1
	}
	w.add(x)
}

func (w *writer) read(n api.Node) {
	if n.Kind == api.NRange {
		w.add(api.Ins{Op: api.InRange, Ref: n.Ref, To: n.To})
		return
	}
	w.add(api.Ins{Op: api.InRef, Ref: n.Ref})
}

// name is for columns, too: none of them is ever known.
func (w *writer) name(n api.Node) {
	if !w.get(n.S) {
		w.add(api.Ins{Op: api.InFault, A: api.VName})
	}
}

// get lays what is kept under a name, as that was written where it became known; false, if it is not known.
func (w *writer) get(name string) bool {
	for i := len(w.known) - 1; i >= 0; i-- {
		if letters.Alike(w.known[i], name) {
			w.add(api.Ins{Op: api.InGet, S: w.known[i]})
			return true
		}
	}
	return false
}

func (w *writer) operator(n api.Node) {
	w.all(n.Kids)
	switch n.Kind {
	case api.NOp:
		w.add(api.Ins{Op: api.InOp, S: n.S})
	case api.NAhead:
		w.add(api.Ins{Op: api.InAhead, S: n.S})
	case api.NBack:
		w.add(api.Ins{Op: api.InBack, S: n.S})
	}
}

func (w *writer) call(n api.Node) {
	if w.get(n.S) {
		w.all(n.Kids)
		w.add(api.Ins{Op: api.InApply, A: len(n.Kids)})
		return
	}
	if n.S == "IF" && (len(n.Kids) == 2 || len(n.Kids) == 3) {
		w.choice(n.Kids)
		return
	}
	w.all(n.Kids)
	w.add(api.Ins{Op: api.InCall, S: n.S, A: len(n.Kids)})
}

// choice sets its jumps when it knows how long what they leave out is.
func (w *writer) choice(kids []api.Node) {
	w.write(kids[0])
	unless := w.add(api.Ins{Op: api.InUnless})
	w.write(kids[1])
	leave := w.add(api.Ins{Op: api.InGo})
	if len(kids) == 3 {
		w.write(kids[2])
	} else {
		w.truth(false)
	}
	end := len(w.ins)
	w.ins[unless].A = leave - unless
	w.ins[unless].B = end - unless - 1
	w.ins[leave].A = end - leave - 1
}

func (w *writer) array(n api.Node) {
	w.all(n.Kids)
	w.add(api.Ins{Op: api.InArray, A: n.Rows, B: len(n.Kids) / n.Rows})
}

func (w *writer) apply(n api.Node) {
	w.all(n.Kids)
	w.add(api.Ins{Op: api.InApply, A: len(n.Kids) - 1})
}

func (w *writer) let(n api.Node) {
	before := len(w.known)
	names := strings.Split(n.S, ",")
	for i, name := range names {
		if kid := n.Kids[i]; kid.Kind == api.NFunc {
			w.named(kid, name)
		} else {
			w.write(kid)
		}
		w.add(api.Ins{Op: api.InKeep, S: name})
		w.known = append(w.known, name)
	}
	w.write(n.Kids[len(names)])
	w.add(api.Ins{Op: api.InForget, A: len(names)})
	w.known = w.known[:before]
}

func (w *writer) function(n api.Node) {
	w.named(n, "")
}

// named writes a function with a name of its own, or an empty one.
func (w *writer) named(n api.Node, own string) {
	begins := w.found(own)
	held := strings.Join(begins, ",")
	if own != "" {
		held += ";" + own
		begins = append(begins, own)
	}
	if n.S != "" {
		begins = append(begins, strings.Split(n.S, ",")...)
	}
	number := block(w.code, n.Kids[0], n.S, begins)
	w.add(api.Ins{Op: api.InFunc, A: number, S: held})
}

// found are the known names that no later one, and not the function's own, hides.
func (w *writer) found(own string) []string {
	var list []string
	for i, name := range w.known {
		hidden := letters.Alike(name, own)
		for _, later := range w.known[i+1:] {
			hidden = hidden || letters.Alike(name, later)
		}
		if !hidden {
			list = append(list, name)
		}
	}
	return list
}
