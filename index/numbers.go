package index

import (
	"math/bits"

	"tabula/api"
)

// wordBits is how many numbers a word has room for.
const wordBits = 64

// numbers are a set of them, a bit for each, and how many there are.
type numbers struct {
	words [(api.MaxIndex + wordBits - 1) / wordBits]uint64
	count int
}

func (n *numbers) add(id int) {
	word, bit := id/wordBits, uint64(1)<<(id%wordBits)
	if n.words[word]&bit == 0 {
		n.words[word] |= bit
		n.count++
	}
}

// remove takes a number out that there is.
func (n *numbers) remove(id int) {
	n.words[id/wordBits] &^= uint64(1) << (id % wordBits)
	n.count--
}

func (n *numbers) rising(yield func(int) bool) {
	for i, word := range n.words {
		for word != 0 {
			if !yield(i*wordBits + bits.TrailingZeros64(word)) {
				return
			}
			word &= word - 1
		}
	}
}
