package what

import (
	"iter"

	"tabula/api"
	"tabula/dec"
	"tabula/wrong"
)

const (
	maxHalves  = 50
	halfDigits = 6
)

// end is a number, and what it makes.
type end struct {
	n    api.Dec
	made api.Dec
}

// search seeks a goal between two ends.
type search struct {
	low   end
	high  end
	goal  api.Dec
	makes func(n api.Dec) (api.Dec, error)
}

// between is the number that makes the goal; the nearer one of the last two ends, if none of the halves does.
func (s *search) between(low api.Dec, high api.Dec) (api.Dec, error) {
	var err error
	if s.low, err = s.end(low); err != nil || s.low == s.found(low) {
		return low, err
	}
	if s.high, err = s.end(high); err != nil || s.high == s.found(high) {
		return high, err
	}
	if !s.isBetween(s.low, s.high) {
		return api.Dec{}, wrong.Of(api.ErrSeek)
	}
halves:
	for n, err := range s.halves() {
		if err != nil {
			return api.Dec{}, err
		}
		next, err := s.end(n)
		switch {
		case err != nil:
			return api.Dec{}, err
		case next == s.found(n):
			s.low, s.high = next, next
			break halves
		case s.isBetween(s.low, next):
			s.high = next
		default:
			s.low = next
		}
	}
	return s.nearer()
}

func (s *search) end(n api.Dec) (end, error) {
	made, err := s.makes(n)
	return end{n, made}, err
}

// found is the end that a number would be, if it made the goal.
func (s *search) found(n api.Dec) end {
	return end{n, s.goal}
}

// isBetween says whether the goal is from what one of two ends makes to what the other one does.
func (s *search) isBetween(a end, b end) bool {
	return dec.Compare(a.made, s.goal)*dec.Compare(b.made, s.goal) <= 0
}

// halves goes through the numbers halfway between both ends, as they are then, up to where there is none.
func (s *search) halves() iter.Seq2[api.Dec, error] {
	return func(yield func(api.Dec, error) bool) {
		for range maxHalves {
			n, err := half(s.low.n, s.high.n)
			isWithin := dec.Compare(s.low.n, n) < 0 && dec.Compare(n, s.high.n) < 0
			if err == nil && !isWithin || !yield(n, err) {
				return
			}
		}
	}
}

func half(a api.Dec, b api.Dec) (api.Dec, error) {
	sum, err := dec.Add(a, b)
	if err != api.OK {
		return api.Dec{}, wrong.Of(api.ErrSeek)
	}
	middle, _ := dec.Div(sum, api.Dec{M: 2})
	n, err := dec.Round(middle, halfDigits)
	if err != api.OK {
		return api.Dec{}, wrong.Of(api.ErrSeek)
	}
	return n, nil
}

// nearer is that of both ends that comes nearer to the goal; the lower one, if both come as near.
func (s *search) nearer() (api.Dec, error) {
	low, wrongLow := s.distance(s.low)
	high, wrongHigh := s.distance(s.high)
	switch {
	case wrongLow != api.OK || wrongHigh != api.OK:
		return api.Dec{}, wrong.Of(api.ErrSeek)
	case dec.Compare(low, high) <= 0:
		return s.low.n, nil
	}
	return s.high.n, nil
}

func (s *search) distance(e end) (api.Dec, api.Errno) {
	d, err := dec.Sub(e.made, s.goal)
	d.M = max(d.M, -d.M)
	return d, err
}
