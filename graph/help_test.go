package graph_test

import (
	"reflect"
	"slices"
	"strings"
	"testing"

	"cocoon/api"
	"cocoon/graph"
)

// body is one of blocks that have so many steps, and go to such blocks: "2>1,3 0>" has two blocks.
func body(text string) api.Body {
	var b api.Body
	for _, x := range strings.Fields(text) {
		steps, to, _ := strings.Cut(x, ">")
		block := api.Block{Ins: make([]api.In, number(steps))}
		if to != "" {
			for _, y := range strings.Split(to, ",") {
				block.End.To = append(block.End.To, number(y))
			}
		}
		b.Blocks = append(b.Blocks, block)
	}
	return b
}

func number(text string) int {
	n, sign := 0, 1
	for i, x := range text {
		if x == '-' && i == 0 {
			sign = -1
			continue
		}
		n = n*10 + int(x-'0')
	}
	return n * sign
}

// change is one at a step, by the flags that are made and those that are no more, a byte each.
func change(block, step int, gen, kill string) graph.Change {
	return graph.Change{Block: block, Step: step, Gen: places(gen), Kill: places(kill)}
}

func places(text string) []int {
	var l []int
	for _, x := range text {
		l = append(l, int(x-'0'))
	}
	return l
}

// flags are those of a text: one that holds is a 1.
func flags(text string) []bool {
	var l []bool
	for _, x := range text {
		l = append(l, x == '1')
	}
	return l
}

// told are states as a text: those of a block one behind the other, `nil` of none, blocks with ` | ` between.
func told(l [][][]bool) string {
	var blocks []string
	for _, block := range l {
		if block == nil {
			blocks = append(blocks, "nil")
			continue
		}
		var all []string
		for _, x := range block {
			text := "."
			for _, y := range x {
				text += map[bool]string{false: "0", true: "1"}[y]
			}
			all = append(all, text)
		}
		blocks = append(blocks, strings.Join(all, " "))
	}
	return strings.Join(blocks, " | ")
}

// is fails, if states are not those of a text.
func is(t *testing.T, about string, got [][][]bool, want string) {
	t.Helper()
	if told(got) != want {
		t.Errorf("%s: %s\nwant %s", about, told(got), want)
	}
}

// dice are numbers one behind the other, always the same ones.
type dice uint64

func (d *dice) roll(n int) int {
	*d = *d*6364136223846793005 + 1442695040888963407
	return int(uint64(*d) >> 33 % uint64(n))
}

// shared tells whether two of all lists of some things have memory in common.
func shared(things ...any) bool {
	type piece struct{ from, to uintptr }
	var l []piece
	for _, x := range things {
		eachList(reflect.ValueOf(x), func(v reflect.Value) {
			if n := uintptr(v.Cap()) * v.Type().Elem().Size(); n > 0 {
				l = append(l, piece{v.Pointer(), v.Pointer() + n})
			}
		})
	}
	slices.SortFunc(l, func(a, b piece) int { return int(int64(a.from) - int64(b.from)) })
	for i := range l[min(1, len(l)):] {
		if l[i].to > l[i+1].from {
			return true
		}
	}
	return false
}

// eachList looks at all lists of a thing that are not nil, from the outside in.
func eachList(v reflect.Value, look func(reflect.Value)) {
	switch v.Kind() {
	case reflect.Struct:
		for i := range v.NumField() {
			eachList(v.Field(i), look)
		}
	case reflect.Slice:
		if v.IsNil() {
			return
		}
		look(v)
		for i := range v.Len() {
			eachList(v.Index(i), look)
		}
	}
}
