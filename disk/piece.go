package disk

import (
	"iter"

	"tabula/api"
)

// piece are bytes from a place on, all within one sector: a crash keeps it, or half of it, or none.
type piece struct {
	at    int
	bytes string
}

// pieces goes through the parts of what is written from a place on, each up to its sector's end.
func pieces(at int, s string) iter.Seq[piece] {
	return func(yield func(piece) bool) {
		for s != "" {
			n := min(api.Sector-at%api.Sector, len(s))
			if !yield(piece{at, s[:n]}) {
				return
			}
			at, s = at+n, s[n:]
		}
	}
}

func (p piece) lay(over []byte) {
	copy(over[p.at:], p.bytes)
}

func (p piece) half() piece {
	return piece{p.at, p.bytes[:len(p.bytes)/2]}
}

// number is that of the piece which a crash keeps, whole or half.
func number(k int) int {
	if k < 0 {
		return -1 - k
	}
	return k
}
