package mach

import (
	"slices"

	"tabula/api"
)

// stack are values, the last one on top. Right code never takes more of them than there are.
type stack struct {
	values []api.Val
}

func (s *stack) lay(v api.Val) {
	s.values = append(s.values, v)
}

func (s *stack) take() api.Val {
	top := len(s.values) - 1
	v := s.values[top]
	s.values = s.values[:top]
	return v
}

// takeAll takes so many, as they were laid, into a list of their own: what is laid next takes their room.
func (s *stack) takeAll(n int) []api.Val {
	below := len(s.values) - n
	l := slices.Clone(s.values[below:])
	s.values = s.values[:below]
	return l
}
