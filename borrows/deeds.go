package borrows

import "cocoon/api"

// deed is what is done with what stands at a spot, or with the spot's local.
type deed int

const (
	reads  deed = iota
	lends       // to a reference by which it may be changed
	moves       // the local's whole value goes away
	writes      // another value comes there
	ends        // the local's value, or its place, is no more
)

// deeds is handed each deed of a step, or of an end, with its spot.
type deeds func(d deed, x api.Spot)

// place does all of a step of a block, or of its end, and tells where that stands.
func (do deeds) place(x api.Block, step int) int {
	if step == len(x.Ins) {
		do.end(x.End)
		return x.End.At
	}
	do.step(x.Ins[step])
	return x.Ins[step].At
}

func (do deeds) step(x api.In) {
	switch x.K {
	case api.InDead, api.InDrop: // the use of a drop but tells that it stands in the text
		do(ends, x.S)
	case api.InSet:
		do.value(x.V)
		do(writes, x.S)
	case api.InPrint:
		do.use(x.U)
	case api.InOpen:
		do(moves, x.S)
	}
}

func (do deeds) end(x api.Tm) {
	switch x.K {
	case api.TmIf, api.TmReturn, api.TmYield:
		do.use(x.U)
	case api.TmMatch:
		do(reads, x.S)
	case api.TmAwait, api.TmPoll:
		do(moves, x.V.S)
		do(writes, x.S)
	case api.TmWait:
		do.use(x.U)
		do(writes, x.S)
	}
}

func (do deeds) value(v api.Value) {
	do.use(v.Uses...)
	switch v.K {
	case api.RvRef:
		do(reads, v.S)
	case api.RvMut:
		do(lends, v.S)
	case api.RvUnbox:
		do(moves, v.S)
	}
}

func (do deeds) use(uses ...api.Use) {
	for _, u := range uses {
		switch {
		case u.Num:
		case u.Move:
			do(moves, u.S)
		default:
			do(reads, u.S)
		}
	}
}
