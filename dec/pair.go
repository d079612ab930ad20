package dec

import (
	"bytes"

	"tabula/api"
)

// pair are two decimals with which something is done.
type pair struct {
	a api.Dec
	b api.Dec
}

// tell begins what is to be done with a pair only if both are right: what is beyond the limits can't be laid.
func (p pair) tell(deed func() figures) (api.Dec, api.Errno) {
	if !Right(p.a) || !Right(p.b) {
		return api.Dec{}, api.ErrDec
	}
	return nearest(deed())
}

func (p pair) unlike() bool {
	return p.a.M < 0 != (p.b.M < 0)
}

func (p pair) sum() figures {
	x, y := lay(p.a), lay(p.b)
	if bytes.Compare(x.at[:], y.at[:]) < 0 {
		return added(y, x)
	}
	return added(x, y)
}

func (p pair) difference() figures {
	return pair{p.a, api.Dec{M: -p.b.M, E: p.b.E}}.sum()
}

func (p pair) product() figures {
	x := times(lay(api.Dec{M: p.a.M, E: p.a.E + p.b.E}), size(p.b.M))
	x.minus = p.unlike()
	return x
}

// quotient breaks off at the array's end, and is told rightly all the same: what is no half where a decimal is cut off is further from it than ten to -34, since the divisor has fifteen digits at most and ten is not below -18.
func (p pair) quotient() figures {
	rest, by, ten := size(p.a.M), size(p.b.M), p.a.E-p.b.E
	x := lay(api.Dec{M: rest / by, E: ten})
	x.minus = p.unlike()
	for i := ahead - ten; i < len(x.at); i++ {
		rest = rest % by * 10
		x.at[i] = byte(rest / by)
	}
	return x
}
