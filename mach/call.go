package mach

import (
	"strings"

	"tabula/api"
	"tabula/fun"
	"tabula/plain"
	"tabula/val"
)

// maxWeight is the most that a function may weigh with all that it holds.
const maxWeight = 40

// kept is a value under its name.
type kept struct {
	name string
	v    api.Val
}

// call is one under way, or the formula itself: its values, and its names.
type call struct {
	machine *machine
	stack   stack
	names   []kept
}

// do does an instruction, and tells how many behind it are to be left out.
func (c *call) do(x api.Ins) int {
	switch x.Op {
	case api.InRef:
		c.stack.lay(c.machine.read(x.Ref, x.Ref))
	case api.InRange:
		c.stack.lay(c.machine.read(x.Ref, x.To))
	case api.InOp:
		b, a := c.stack.take(), c.stack.take()
		c.stack.lay(operator(x.S, a, b))
	case api.InAhead:
		c.stack.lay(ahead(x.S, c.stack.take()))
	case api.InBack:
		c.stack.lay(percent(c.stack.take()))
	case api.InCall:
		c.stack.lay(fun.Call(x.S, c.stack.takeAll(x.A), c.machine.frame.Now))
	case api.InArray:
		c.stack.lay(array(x.A, x.B, c.stack.takeAll(x.A*x.B)))
	case api.InUnless:
		return c.unless(x)
	case api.InGo:
		return x.A
	case api.InFunc:
		c.stack.lay(c.function(x))
	case api.InApply:
		l := c.stack.takeAll(x.A)
		c.stack.lay(c.apply(c.stack.take(), l))
	case api.InKeep:
		c.names = append(c.names, kept{x.S, c.stack.take()})
	case api.InGet:
		c.stack.lay(c.get(x.S))
	case api.InForget:
		c.names = c.names[:len(c.names)-x.A]
	default:
		c.stack.lay(constant(x))
	}
	return 0
}

func constant(x api.Ins) api.Val {
	switch x.Op {
	case api.InNum:
		return plain.Number(x.N)
	case api.InText:
		return plain.Text(x.S)
	case api.InTruth:
		return plain.Truth(x.A == 1)
	case api.InFault:
		return plain.Fault(x.A)
	}
	return api.Val{}
}

func array(rows int, cols int, l []api.Val) api.Val {
	if len(l) > api.MaxArray {
		return plain.Fault(api.VNum)
	}
	for i, v := range l {
		if v.Kind == api.Array || v.Kind == api.Func {
			l[i] = plain.Fault(api.VValue)
		}
	}
	return api.Val{Kind: api.Array, Rows: rows, Cols: cols, L: l}
}

func (c *call) unless(x api.Ins) int {
	told := val.ToBool(c.stack.take())
	switch {
	case told.Kind == api.Array:
		told = plain.Fault(api.VValue)
		fallthrough
	case told.Kind == api.Fault:
		c.stack.lay(told)
		return x.B
	case told.B:
		return 0
	}
	return x.A
}

// backward goes through what is kept, from the last one on.
func (c *call) backward(yield func(kept) bool) {
	for i := len(c.names) - 1; i >= 0; i-- {
		if !yield(c.names[i]) {
			return
		}
	}
}

func (c *call) get(name string) api.Val {
	for k := range c.backward {
		if k.name == name {
			return k.v
		}
	}
	return plain.Fault(api.VName)
}

func (c *call) function(x api.Ins) api.Val {
	f := api.Val{Kind: api.Func, S: x.S, Fn: x.A, Code: c.machine.code}
	names, _, _ := strings.Cut(x.S, ";")
	for _, name := range parts(names) {
		f.L = append(f.L, c.get(name))
	}
	if weight(f) > maxWeight {
		return plain.Fault(api.VNum)
	}
	return f
}

func weight(v api.Val) int {
	w := 1
	if v.Kind == api.Func {
		for _, x := range v.L {
			w += weight(x)
		}
	}
	return w
}

func (c *call) apply(f api.Val, l []api.Val) api.Val {
	m := c.machine
	if f.Kind == api.Fault {
		return f
	}
	if f.Kind != api.Func {
		return plain.Fault(api.VValue)
	}
	params := parts(m.code.Params[f.Fn])
	if len(params) != len(l) {
		return plain.Fault(api.VValue)
	}
	if m.calls == api.MaxCalls {
		return plain.Fault(api.VNum)
	}
	held, own, named := strings.Cut(f.S, ";")
	names := keep(nil, parts(held), f.L)
	if named {
		names = append(names, kept{own, f})
	}
	m.calls++
	v := m.block(f.Fn, keep(names, params, l))
	m.calls--
	return v
}

func keep(list []kept, names []string, l []api.Val) []kept {
	for i, name := range names {
		list = append(list, kept{name, l[i]})
	}
	return list
}

// parts are names with commas between; of none there is none.
func parts(names string) []string {
	if names == "" {
		return nil
	}
	return strings.Split(names, ",")
}
