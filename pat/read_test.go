package pat

import (
	"testing"

	"emendator/api"
)

// TestNoPanicGetsOut: a slip of the reader's own, which no pattern brings about, is caught too, and is told by no error that a pattern may have.
func TestNoPanicGetsOut(t *testing.T) {
	r := newReader("a", "")
	r.at = 5
	if p, errno, at := r.read(); len(p.Nodes) > 0 || errno != api.ErrArg || at != 0 {
		t.Errorf("%v %d %d", p, errno, at)
	}
}

// TestNoMoreNodesThanNeeded: when there are too many nodes, what ~ stands for is not laid down again and again.
func TestNoMoreNodesThanNeeded(t *testing.T) {
	all := make([]byte, api.MaxPat)
	for i := range all {
		all[i] = '~'
	}
	r := newReader(string(all), string(make([]byte, api.MaxLine)))
	if _, errno, at := r.read(); errno != api.ErrPatBig || at != 0 {
		t.Errorf("%d at %d", errno, at)
	}
	if len(r.nodes) > api.MaxNodes+api.MaxLine+api.MaxPat+2 {
		t.Errorf("%d nodes were made", len(r.nodes))
	}
}
