package pat

import "emendator/api"

// checker looks at the nodes that are asked for from Root on.
type checker struct {
	api.Pat
	asked []bool // of each node, whether it was
}

func (c *checker) groups() bool {
	return c.Groups >= 0 && c.Groups <= api.MaxGroups
}

// tree keeps a list of the nodes to ask for: a call within a call for each level would not bear as many levels as there may be.
func (c *checker) tree() bool {
	for next := []int{c.Root}; len(next) > 0; {
		at := next[len(next)-1]
		next = next[:len(next)-1]
		if !c.has(at) || c.asked[at] || !c.fits(c.Nodes[at]) {
			return false
		}
		c.asked[at] = true
		next = append(next, c.Nodes[at].Kids...)
	}
	return true
}

func (c *checker) has(at int) bool { return at >= 0 && at < len(c.Nodes) }

// fits says whether a node has what its Op asks for.
func (c *checker) fits(n api.Node) bool {
	switch n.Op {
	case api.OpEmpty, api.OpByte, api.OpAny, api.OpSet, api.OpBol, api.OpEol, api.OpBow, api.OpEow, api.OpZs, api.OpZe:
		return len(n.Kids) == 0
	case api.OpCat, api.OpAlt:
		return len(n.Kids) >= 2
	case api.OpBack:
		return len(n.Kids) == 0 && c.isGroup(n.N)
	case api.OpGroup:
		return len(n.Kids) == 1 && c.isGroup(n.N)
	case api.OpMany:
		return len(n.Kids) == 1 && timesFit(n) && c.mayRepeat(n.Kids[0])
	}
	return false
}

func (c *checker) isGroup(n int) bool { return n >= 1 && n <= c.Groups }

func timesFit(n api.Node) bool {
	return n.Min >= 0 && n.Min <= api.MaxTimes && (n.Max < 0 || n.Max >= n.Min && n.Max <= api.MaxTimes)
}

// mayRepeat says whether the node there may be the kid of an OpMany.
func (c *checker) mayRepeat(at int) bool {
	if !c.has(at) || !repeats(c.Nodes[at].Op) {
		return false
	}
	return c.Nodes[at].Op != api.OpCat || c.areBytes(c.Nodes[at].Kids)
}

func (c *checker) areBytes(places []int) bool {
	for _, at := range places {
		if !c.has(at) || c.Nodes[at].Op != api.OpByte {
			return false
		}
	}
	return true
}
