package mir

import (
	"strconv"
	"strings"

	"cocoon/api"
)

// unknown is the line of what has none.
const unknown = "\t?"

func tellStep(x api.In, line func(pieces ...string)) {
	local := strconv.Itoa(x.S.Local)
	switch x.K {
	case api.InLive:
		line("\tlive ", local)
	case api.InDead:
		line("\tdead ", local)
	case api.InSet:
		line("\tset ", spotText(x.S), " = ", valueText(x.V))
	case api.InDrop:
		line("\t", dropWord(x.U), " ", local)
	case api.InPrint:
		line("\tprint ", useText(x.U))
	case api.InOpen:
		line("\topen ", spotText(x.S), " ", strconv.Itoa(x.V.Tag), " ", strconv.Itoa(x.V.S.Local))
	default:
		line(unknown)
	}
}

// dropWord tells a drop that somebody wrote from one where a local ends.
func dropWord(u api.Use) string {
	if u.Move {
		return "drop"
	}
	return "end"
}

func tellEnd(x api.Tm, line func(pieces ...string)) {
	to := numbers(x.To)
	switch x.K {
	case api.TmGoto:
		line("\tgoto", to)
	case api.TmIf:
		line("\tif ", useText(x.U), to)
	case api.TmMatch:
		line("\tmatch ", spotText(x.S), to)
	case api.TmReturn:
		line("\treturn ", useText(x.U))
	case api.TmYield:
		line("\tyield ", useText(x.U), to)
	case api.TmAwait:
		line("\tawait ", spotText(x.S), " ", strconv.Itoa(x.V.S.Local), to)
	case api.TmPoll:
		line("\tpoll ", spotText(x.S), " ", strconv.Itoa(x.V.S.Local), to)
	case api.TmWait:
		line("\twait ", spotText(x.S), " ", useText(x.U), to)
	default:
		line(unknown)
	}
}

// numbers is the text of some, each with a blank ahead.
func numbers(l []int) string {
	var text strings.Builder
	for _, n := range l {
		text.WriteByte(' ')
		text.WriteString(strconv.Itoa(n))
	}
	return text.String()
}

func spotText(x api.Spot) string {
	var text strings.Builder
	text.WriteString(strconv.Itoa(x.Local))
	for _, step := range x.Path {
		text.WriteByte('.')
		text.WriteString(strconv.Itoa(step))
	}
	return text.String()
}

func useText(u api.Use) string {
	switch {
	case u.Num:
		return "#" + strconv.Itoa(u.N)
	case u.Move:
		return "move " + spotText(u.S)
	}
	return "copy " + spotText(u.S)
}

func valueText(v api.Value) string {
	var text strings.Builder
	text.WriteString(strconv.Itoa(int(v.K)))
	text.WriteString(numbers([]int{v.Which, v.Tag}))
	for _, u := range v.Uses {
		text.WriteByte(' ')
		text.WriteString(useText(u))
	}
	if hasSpot(v.K) {
		text.WriteByte(' ')
		text.WriteString(spotText(v.S))
	}
	return text.String()
}

// hasSpot tells whether a value of a kind is made of what stands at its spot.
func hasSpot(k api.RvKind) bool {
	return k == api.RvRef || k == api.RvMut || k == api.RvUnbox
}
