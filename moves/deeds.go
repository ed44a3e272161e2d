package moves

import "cocoon/api"

// deeds are what comes of each deed of a step. They come in the order in which they are done, so that what a use moves away is not set for what stands behind it.
type deeds struct {
	needs func(spots ...api.Spot) // their locals have to be set
	takes func(spots ...api.Spot) // they are not set from there on
	loses func(spots ...api.Spot) // what they are set to is lost
	sets  func(spots ...api.Spot) // they are set from there on
}

// each makes what is done with each local a deed.
func each(do func(local int)) func(spots ...api.Spot) {
	return func(spots ...api.Spot) {
		for _, x := range spots {
			do(x.Local)
		}
	}
}

// place does all of a step of a block, or of its end, and tells where that stands.
func (d deeds) place(x api.Block, step int) int {
	if step == len(x.Ins) {
		d.end(x.End)
		return x.End.At
	}
	d.step(x.Ins[step])
	return x.Ins[step].At
}

func (d deeds) step(x api.In) {
	switch x.K {
	case api.InLive, api.InDead:
		d.takes(x.S)
	case api.InSet:
		d.value(x.V)
		d.set(x.S)
	case api.InDrop:
		if x.U.Move { // it was told; where a local ends, it is dropped only if it is set
			d.needs(x.S)
		}
		d.takes(x.S)
	case api.InPrint:
		d.use(x.U)
	case api.InOpen:
		d.needs(x.S)
		d.takes(x.S)
		if x.V.S.Local >= 0 {
			d.sets(x.V.S)
		}
	}
}

func (d deeds) end(x api.Tm) {
	switch x.K {
	case api.TmIf, api.TmReturn, api.TmYield:
		d.use(x.U)
	case api.TmMatch:
		d.needs(x.S)
	case api.TmAwait:
		d.needs(x.V.S)
		d.takes(x.V.S)
		d.set(x.S)
	case api.TmPoll:
		d.needs(x.V.S)
		d.set(x.S)
	case api.TmWait:
		d.use(x.U)
		d.set(x.S)
	}
}

func (d deeds) value(v api.Value) {
	d.use(v.Uses...)
	switch v.K {
	case api.RvRef, api.RvMut:
		d.needs(v.S)
	case api.RvUnbox:
		d.needs(v.S)
		d.takes(v.S)
	}
}

func (d deeds) use(uses ...api.Use) {
	for _, u := range uses {
		if u.Num {
			continue
		}
		d.needs(u.S)
		if u.Move {
			d.takes(u.S)
		}
	}
}

// set makes a local set; or a part of it, which has to be there.
func (d deeds) set(x api.Spot) {
	if len(x.Path) > 0 {
		d.needs(x)
		return
	}
	d.loses(x)
	d.sets(x)
}
