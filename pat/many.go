package pat

import (
	"emendator/api"
	"emendator/kind"
)

// manySigns say how many times the piece ahead comes.
const manySigns = "*+=?{"

// many lays the piece ahead into a node that says how many times it comes.
func (r *reader) many(t token, pieces []int) []int {
	last := len(pieces) - 1
	if last < 0 || !repeats(r.nodes[pieces[last]].Op) {
		if t.c != '*' {
			panic(fault{api.ErrPatMany, t.at})
		}
		return append(pieces, r.plain(t.c))
	}
	n := r.times(t)
	n.Kids = []int{pieces[last]}
	pieces[last] = r.add(n)
	return pieces
}

// repeats says whether a piece of that Op may come several times. Among pieces OpCat and OpEmpty are always what ~ stands for.
func repeats(op uint8) bool {
	switch op {
	case api.OpByte, api.OpAny, api.OpSet, api.OpCat, api.OpGroup, api.OpBack, api.OpEmpty:
		return true
	}
	return false
}

// times is an OpMany, still without its kid.
func (r *reader) times(t token) api.Node {
	n := api.Node{Op: api.OpMany, Max: -1}
	switch t.c {
	case '+':
		n.Min = 1
	case '=', '?':
		n.Max = 1
	case '{':
		r.bounds(t, &n)
	}
	return n
}

// bounds reads what stands behind the sign {, up to its end.
func (r *reader) bounds(t token, n *api.Node) {
	n.Lazy = r.skip("-")
	least, said := r.number(t)
	n.Min = least
	if r.skip(",") {
		if most, said := r.number(t); said {
			n.Max = most
		}
	} else if said {
		n.Max = least
	}
	if !r.skip("}") && !r.skip(`\}`) || n.Max >= 0 && n.Max < n.Min {
		panic(fault{api.ErrPatMany, t.at})
	}
}

// number is that which comes next; false: none does.
func (r *reader) number(t token) (int, bool) {
	from, n := r.at, 0
	for r.at < len(r.s) && kind.Is('d', r.s[r.at]) {
		n = 10*n + int(r.s[r.at]-'0')
		r.at++
		if n > api.MaxTimes || r.at-from > 3 {
			panic(fault{api.ErrPatMany, t.at})
		}
	}
	return n, r.at > from
}
