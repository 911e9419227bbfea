package match

// rounds are the places of all rounds as the try that goes on has them. There may be far more rounds than slots, and few of them change between one try and another: so tries do not have copies of them, but what was changed is written down, and taken back when a try that was laid aside ahead of it goes on.
type rounds struct {
	began   []int
	written []change
}

// change is a round, and the place that it had till then.
type change struct {
	round int
	was   int
}

func (r *rounds) start(round, at int) {
	r.written = append(r.written, change{round, r.began[round]})
	r.began[round] = at
}

func (r *rounds) hasGone(round, at int) bool { return r.began[round] != at }

// takeBack undoes changes, the last one first, till only so many are left.
func (r *rounds) takeBack(left int) {
	for len(r.written) > left {
		last := r.written[len(r.written)-1]
		r.began[last.round] = last.was
		r.written = r.written[:len(r.written)-1]
	}
}
