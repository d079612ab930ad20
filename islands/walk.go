package islands

// state is what a walk knows of a node: as which one it was reached (from 1 on), the first one that it leads back to, and the number of its island (from 1 on, when that is known).
type state struct {
	reached int
	back    int
	island  int
}

// step is one of the path from where a walk began: a node, and how many of its edges have been gone.
type step struct {
	node int
	gone int
}

// walk goes along the edges of a graph, each once. Those that it reached, and whose island is not known yet, are open.
type walk struct {
	edges   [][]int
	nodes   []state
	reached int
	open    []int
	path    []step
	islands int
}

func (w *walk) enter(node int) {
	w.reached++
	w.nodes[node] = state{reached: w.reached, back: w.reached}
	w.open = append(w.open, node)
	w.path = append(w.path, step{node: node})
}

// from walks to all nodes that one leads to, and that have not been reached. The path is kept by hand.
func (w *walk) from(node int) {
	w.enter(node)
walk:
	for {
		last := &w.path[len(w.path)-1]
		list := w.edges[last.node]
		for last.gone < len(list) {
			to := list[last.gone]
			last.gone++
			if w.nodes[to].reached == 0 {
				w.enter(to)
				continue walk
			}
			w.lead(last.node, w.nodes[to].reached, to)
		}
		w.close(last.node)
		w.path = w.path[:len(w.path)-1]
		if len(w.path) == 0 {
			break walk
		}
		w.lead(w.path[len(w.path)-1].node, w.nodes[last.node].back, last.node)
	}
}

// lead notes that a node leads back as far as another one does, if that is open: what has an island leads back to none.
func (w *walk) lead(node int, back int, over int) {
	if w.nodes[over].island == 0 {
		w.nodes[node].back = min(w.nodes[node].back, back)
	}
}

// close makes an island of a node, and of those that were reached behind it and are open, if it leads to none ahead of it.
func (w *walk) close(node int) {
	if w.nodes[node].back < w.nodes[node].reached {
		return
	}
	w.islands++
	for last := -1; last != node; {
		last = w.open[len(w.open)-1]
		w.open = w.open[:len(w.open)-1]
		w.nodes[last].island = w.islands
	}
}
