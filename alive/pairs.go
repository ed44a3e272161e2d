package alive

// pairs are which two of n locals may have a place at once: for each local one flag for each, all in one row.
type pairs struct {
	n   int
	row []bool
}

// newPairs are those of each local and itself.
func newPairs(n int) pairs {
	p := pairs{n, make([]bool, n*n)}
	for i := range n {
		p.add(i, i)
	}
	return p
}

func (p pairs) add(a, b int) {
	p.row[a*p.n+b], p.row[b*p.n+a] = true, true
}

// meet makes pairs of all that have a place in a state. Two that had one in the last state, too, are a pair already, so that those alone are gone through that had none there.
func (p pairs) meet(state, last []bool) {
	for local, has := range state {
		if !has || last[local] {
			continue
		}
		for other, too := range state {
			if too {
				p.add(local, other)
			}
		}
	}
}

// rows are the flags local by local. None has room behind its end: what is added to one of them must not come into the next one.
func (p pairs) rows() [][]bool {
	l := make([][]bool, p.n)
	for i := range l {
		from, to := i*p.n, (i+1)*p.n
		l[i] = p.row[from:to:to]
	}
	return l
}
