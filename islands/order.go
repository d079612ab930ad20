package islands

import "tabula/api"

// island has its nodes, rising; how many edges lead from it to islands that are not told yet; and the island of each edge that leads to it.
type island struct {
	nodes   []int
	waits   int
	readers []int
}

// order tells the islands that a walk has found.
func (w *walk) order() [][]int {
	all := w.gather()
	var next heap
	mayBe := func(i int) {
		if all[i].waits == 0 {
			next.push(all[i].nodes[0])
		}
	}
	for i := range all {
		mayBe(i)
	}
	var list [][]int
	for next.count > 0 {
		told := all[w.nodes[next.pop()].island-1]
		list = append(list, told.nodes)
		for _, i := range told.readers {
			all[i].waits--
			mayBe(i)
		}
	}
	return list
}

func (w *walk) gather() []island {
	all := make([]island, w.islands)
	for node, list := range w.edges {
		i := w.nodes[node].island - 1
		all[i].nodes = append(all[i].nodes, node)
		for _, to := range list {
			if j := w.nodes[to].island - 1; j != i {
				all[i].waits++
				all[j].readers = append(all[j].readers, i)
			}
		}
	}
	return all
}

// heap are nodes, of which the least one stands first: none is less than that at half its place.
type heap struct {
	nodes [api.MaxGraph]int
	count int
}

func (h *heap) push(node int) {
	at := h.count
	h.count++
	for at > 0 && h.nodes[(at-1)/2] > node {
		h.nodes[at] = h.nodes[(at-1)/2]
		at = (at - 1) / 2
	}
	h.nodes[at] = node
}

func (h *heap) pop() int {
	least := h.nodes[0]
	h.count--
	node, at := h.nodes[h.count], 0
	for {
		below := 2*at + 1
		if below+1 < h.count && h.nodes[below+1] < h.nodes[below] {
			below++
		}
		if below >= h.count || h.nodes[below] >= node {
			break
		}
		h.nodes[at] = h.nodes[below]
		at = below
	}
	h.nodes[at] = node
	return least
}
