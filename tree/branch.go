package tree

import "tabula/api"

// branch is a part of a tree, how deep it is, and how many nodes it has. One that is too much for a tree is counted, and no more kept: its pieces still have to be read to their end.
type branch struct {
	node  api.Node
	deep  int
	nodes int
}

func grown(n api.Node, kids ...*branch) *branch {
	b := &branch{node: n, deep: 1, nodes: 1}
	for _, kid := range kids {
		b.add(kid)
	}
	return b
}

func (b *branch) add(kid *branch) {
	b.deep = max(b.deep, kid.deep+1)
	b.nodes += kid.nodes
	if b.fits() {
		b.node.Kids = append(b.node.Kids, kid.node)
	}
}

func (b *branch) fits() bool {
	return b.deep <= api.MaxDeep && b.nodes <= api.MaxNodes
}
