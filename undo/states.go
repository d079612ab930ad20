package undo

import (
	"iter"
	"slices"

	"tabula/api"
	"tabula/op"
)

// state is an entry's: it is on; it is off, and will stay so; it is off, and is the next one of its author's to be made again, or waits till others are.
type state int

const (
	on state = iota
	dead
	ready
	asleep
)

// traveller is an entry that goes along with what is taken back, or made again, ahead of it.
type traveller struct {
	api.Entry
	state state
}

// states are those of all entries of a right log.
func states(l []api.Entry) []state {
	list := make([]state, len(l))
	var isOnBehind, isOffAhead [api.MaxAuthors]bool
	for i, e := range slices.Backward(l) {
		switch {
		case !e.Off:
			isOnBehind[e.Author] = true
		case isOnBehind[e.Author] || !op.Same(e.Op, e.Again):
			list[i] = dead
		default:
			list[i] = ready
		}
	}
	for i, e := range l {
		if list[i] == ready && isOffAhead[e.Author] {
			list[i] = asleep
		}
		isOffAhead[e.Author] = isOffAhead[e.Author] || list[i] == ready
	}
	return list
}

// travellers goes through the entries behind one that go along with it.
func travellers(l []api.Entry, k int) iter.Seq2[int, traveller] {
	return func(yield func(int, traveller) bool) {
		for i, s := range states(l) {
			t := traveller{l[i], s}
			stays := i <= k || s == dead || t.Off && t.Author == l[k].Author
			if !stays && !yield(i, t) {
				return
			}
		}
	}
}

// lastOn is the number of an author's last entry that is on; below 0, if there is none.
func lastOn(l []api.Entry, author int) int {
	for i, e := range slices.Backward(l) {
		if e.Author == author && !e.Off {
			return i
		}
	}
	return -1
}

// firstReady is the number of an author's first entry that is off, and not dead; below 0, if there is none.
func firstReady(l []api.Entry, author int) int {
	for i, s := range states(l) {
		if l[i].Author == author && s == ready {
			return i
		}
	}
	return -1
}
