package loans

// rows are what locals hold: for each one a row of flags, one for each loan.
type rows struct {
	loans int
	flags []bool
}

func newRows(locals, loans int) rows { return rows{loans, make([]bool, locals*loans)} }

// of is the row of a local.
func (r rows) of(local int) []bool { return r.flags[local*r.loans:][:r.loans] }

// nobody is told of a local that holds nothing of what was held ahead of a block.
const nobody = -1

// walk goes through a block: it knows what is held at the place to which it came.
type walk struct {
	rows
	since []int // whose row of those ahead of the block each local holds, beside what its own row tells
}

// begin goes back to where nothing was made yet, and each local holds what it held ahead of the block.
func (w walk) begin() {
	clear(w.flags)
	for local := range w.since {
		w.since[local] = local
	}
}

// take lets a local hold what another one holds, and nothing else.
func (w walk) take(to, from int) {
	copy(w.of(to), w.of(from))
	w.since[to] = w.since[from]
}

// lose lets a local hold nothing.
func (w walk) lose(local int) {
	clear(w.of(local))
	w.since[local] = nobody
}
