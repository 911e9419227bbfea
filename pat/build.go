package pat

import "emendator/api"

// builder keeps the nodes of a pattern. Each one that is added comes to stand in the tree: so they are counted by counting these.
type builder struct {
	nodes []api.Node
}

// add is the place of a new node.
func (b *builder) add(n api.Node) int {
	b.nodes = append(b.nodes, n)
	return len(b.nodes) - 1
}

func (b *builder) plain(c byte) int {
	return b.add(api.Node{Op: api.OpByte, C: c})
}

func (b *builder) set(s api.Set) int {
	return b.add(api.Node{Op: api.OpSet, Set: s})
}

// bare is a node that is told by its Op alone.
func (b *builder) bare(op uint8) int {
	return b.add(api.Node{Op: op})
}

// join is a node of that Op for several, else the one that there is, or a node of nothing.
func (b *builder) join(op uint8, kids []int) int {
	switch len(kids) {
	case 0:
		return b.bare(api.OpEmpty)
	case 1:
		return kids[0]
	}
	return b.add(api.Node{Op: op, Kids: kids})
}
