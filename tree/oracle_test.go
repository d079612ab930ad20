package tree_test

// Which pieces can stand where, by a grammar of what the chapter's table says, gone through by charts: that tells the first piece that can't stand, whatever stands behind it.

import "strings"

// rules are those of formulas; a small word is a piece, a great one what is made of pieces. Names of one LET or LAMBDA are not held against each other here.
const rules = `
S = E
E = P | AHEAD E | E % | E OP E
OP = = | <> | < | <= | > | >= | & | + | - | * | / | ^
AHEAD = + | -
P = num | text | truth | fault | ref | bad | name | col | ref : ref | C | ( E ) | { ROW }
C = call ( ) | call ( LIST ) | lambda ( E ) | lambda ( NAMES E ) | let ( LETS E ) | C ( ) | C ( LIST ) | ( E ) ( ) | ( E ) ( LIST )
LIST = E | LIST , E
NAMES = name , | NAMES name ,
LETS = name , E , | LETS name , E ,
ROW = K | ROW , K
K = num | text | truth | fault | - num
`

// grammar is each great word's ways of being made.
var grammar = func() map[string][][]string {
	g := map[string][][]string{}
	for _, line := range strings.Split(strings.TrimSpace(rules), "\n") {
		left, right, _ := strings.Cut(line, " = ")
		for _, way := range strings.Split(right, " | ") {
			g[left] = append(g[left], strings.Fields(way))
		}
	}
	return g
}()

// state is how far a way has been gone, and at which piece it was begun.
type state struct {
	left, way string
	dot, from int
}

// firstWrong is the number of the first piece that can't stand; how many there are, if more would have to; -1, if they are a formula.
func firstWrong(pieces []string) int {
	var charts []map[state]bool
	var queue []state
	add := func(i int, s state) {
		if !charts[i][s] {
			charts[i][s] = true
			queue = append(queue, s)
		}
	}
	charts = append(charts, map[state]bool{})
	add(0, state{"S", "E", 0, 0})
	for i := 0; ; i++ {
		next := map[state]bool{}
		for len(queue) > 0 {
			s := queue[0]
			queue = queue[1:]
			way := strings.Fields(s.way)
			if s.dot == len(way) {
				for up := range charts[s.from] {
					if w := strings.Fields(up.way); up.dot < len(w) && w[up.dot] == s.left {
						add(i, state{up.left, up.way, up.dot + 1, up.from})
					}
				}
				continue
			}
			for _, w := range grammar[way[s.dot]] {
				add(i, state{way[s.dot], strings.Join(w, " "), 0, i})
			}
			if i < len(pieces) && grammar[way[s.dot]] == nil && way[s.dot] == pieces[i] {
				next[state{s.left, s.way, s.dot + 1, s.from}] = true
			}
		}
		switch {
		case i == len(pieces) && charts[i][state{"S", "E", 1, 0}]:
			return -1
		case i == len(pieces), len(next) == 0:
			return i
		}
		charts = append(charts, map[state]bool{})
		for s := range next {
			add(i+1, s)
		}
	}
}
