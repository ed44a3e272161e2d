package pins

import (
	"cocoon/api"
	"cocoon/graph"
)

// polled is which locals may be polled at each place of a body that may be; nil of a block that is not reached. At first none is.
func polled(b api.Body) [][][]bool {
	return graph.Flow(b, len(b.Locals), nil, changes(b), false)
}

// changes are which locals steps, and ends, make polled, and not polled.
func changes(b api.Body) []graph.Change {
	var l []graph.Change
	for block, x := range b.Blocks {
		for step, in := range x.Ins {
			if local, ok := renewed(in); ok {
				l = append(l, graph.Change{Block: block, Step: step, Kill: []int{local}})
			}
		}
		end := graph.Change{Block: block, Step: len(x.Ins)}
		switch x.End.K {
		case api.TmPoll:
			end.Gen = []int{x.End.V.S.Local}
		case api.TmAwait:
			end.Kill = []int{x.End.V.S.Local}
		}
		l = append(l, end)
	}
	return l
}

// renewed is the local that holds something else, or nothing, behind a step; false, if there is none.
func renewed(x api.In) (int, bool) {
	switch x.K {
	case api.InLive, api.InDead, api.InDrop:
		return x.S.Local, true
	case api.InSet:
		return x.S.Local, len(x.S.Path) == 0
	case api.InOpen:
		return x.V.S.Local, x.V.S.Local >= 0
	}
	return 0, false
}
