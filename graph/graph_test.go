package graph_test

import (
	"slices"
	"testing"

	"cocoon/api"
	"cocoon/graph"
)

// TestExample: a block with one step, that makes 0.
func TestExample(t *testing.T) {
	made := []graph.Change{change(0, 0, "0", "")}
	is(t, "flow", graph.Flow(body("1>"), 1, nil, made, false), ".0 .1 .1")
	is(t, "flow on all ways", graph.Flow(body("1>"), 1, nil, made, true), ".0 .1 .1")
	is(t, "back", graph.Back(body("1>"), 1, made), ".1 .0 .0")
}

func TestPreds(t *testing.T) {
	for text, want := range map[string][][]int{
		"":                    nil,
		"0>":                  {nil},
		"0>0":                 {{0}},
		"0>1 0>2 0>1":         {nil, {0, 2}, {1}},
		"0>1 0> 0>1,0":        {{2}, {0, 2}, nil},    // nothing goes to 2
		"0>2,2,1,2 0>2,2 0>2": {nil, {0}, {0, 1, 2}}, // each once
		"0>2,1,0 0>2,1,0 0>0": {{0, 1, 2}, {0, 1}, {0, 1}},
		"0>-1,1 3>2,5":        {nil, {0}},
		"0>-9223372036854775808,9223372036854775807": {nil},
	} {
		got := graph.Preds(body(text))
		if !slices.EqualFunc(got, want, slices.Equal) {
			t.Errorf("%q: %v, want %v", text, got, want)
		}
	}
}

func TestReach(t *testing.T) {
	for text, want := range map[string]string{
		"":                                    "",
		"0>":                                  "1",
		"0>0":                                 "1",
		"0> 0>0":                              "10",
		"0>1 0>2 0>1":                         "111",
		"0>1 0> 0>1,0":                        "110",
		"0>2,2 0>3 0>0 0>1":                   "1010",
		"0>4 0>0 0>1 0>2 0>3":                 "11111",
		"0>-1,1,2 3>2,5":                      "11",
		"0>1,2 0>3 0>3 0> 0>5 0>4,0":          "111100",
		"0>2 0>1 0>3 0>2,9223372036854775807": "1011",
	} {
		if got := graph.Reach(body(text)); !slices.Equal(got, flags(want)) {
			t.Errorf("%q: %v, want %v", text, got, want)
		}
	}
}

// TestFlow: what comes on one way, and on all.
func TestFlow(t *testing.T) {
	for _, x := range []struct {
		about, body, start string
		l                  []graph.Change
		one, all           string
	}{
		{"no blocks", "", "1", nil, "", ""},
		{"no steps", "0>", "10", nil, ".10 .10", ".10 .10"},
		{"each step, and the end", "2>", "00", []graph.Change{change(0, 0, "0", ""), change(0, 1, "1", "0"), change(0, 2, "0", "")},
			".00 .10 .01 .11", ".00 .10 .01 .11"},
		{"two rows meet", "0>1,2 1>3 1>3 0>", "00", []graph.Change{change(1, 0, "0", ""), change(2, 0, "01", "")},
			".00 .00 | .00 .10 .10 | .00 .11 .11 | .11 .11", ".00 .00 | .00 .10 .10 | .00 .11 .11 | .10 .10"},
		{"a row ends what is set", "0>1,2 1>2 0>", "1", []graph.Change{change(1, 0, "", "0")},
			".1 .1 | .1 .0 .0 | .1 .1", ".1 .1 | .1 .0 .0 | .0 .0"},
		{"a while makes", "0>1 0>2,3 1>1 0>", "0", []graph.Change{change(2, 0, "0", "")},
			".0 .0 | .1 .1 | .1 .1 .1 | .1 .1", ".0 .0 | .0 .0 | .0 .1 .1 | .0 .0"},
		{"a while ends", "0>1 0>2,3 1>1 0>", "1", []graph.Change{change(2, 0, "", "0")},
			".1 .1 | .1 .1 | .1 .0 .0 | .1 .1", ".1 .1 | .0 .0 | .0 .0 .0 | .0 .0"},
		{"round and round", "0>1 0>1,2 0>", "1", nil, ".1 .1 | .1 .1 | .1 .1", ".1 .1 | .1 .1 | .1 .1"},
		{"the first block goes to itself", "1>0,1 0>", "0", []graph.Change{change(0, 0, "0", "")},
			".1 .1 .1 | .1 .1", ".0 .1 .1 | .1 .1"},
		{"and ends what it starts with", "1>0,1 0>", "1", []graph.Change{change(0, 0, "", "0")},
			".1 .0 .0 | .0 .0", ".0 .0 .0 | .0 .0"},
		{"nothing but a ring is ahead", "0>0", "10", nil, ".10 .10", ".10 .10"},
		{"a ring that is not reached", "0>2 1>1,2 0>", "0", []graph.Change{change(1, 0, "0", "")},
			".0 .0 | nil | .0 .0", ".0 .0 | nil | .0 .0"},
		{"a block that is not reached ends nothing", "0>2 1>2 0>", "1", []graph.Change{change(1, 0, "", "0")},
			".1 .1 | nil | .1 .1", ".1 .1 | nil | .1 .1"},
		{"a block that is not reached goes to the first", "0> 0>0", "1", []graph.Change{change(1, 0, "", "0")},
			".1 .1 | nil", ".1 .1 | nil"},
		{"and makes nothing there", "0> 0>0", "0", []graph.Change{change(1, 0, "0", "")}, ".0 .0 | nil", ".0 .0 | nil"},
		{"no such blocks", "0>1,7,-1 0>2", "1", nil, ".1 .1 | .1 .1", ".1 .1 | .1 .1"},
		{"blocks the other way round", "0>3 0> 0>1 0>2", "01", []graph.Change{change(3, 0, "0", "1")},
			".01 .01 | .10 .10 | .10 .10 | .01 .10", ".01 .01 | .10 .10 | .10 .10 | .01 .10"},
	} {
		n := len(x.start)
		is(t, x.about+", on one way", graph.Flow(body(x.body), n, flags(x.start), x.l, false), x.one)
		is(t, x.about+", on all ways", graph.Flow(body(x.body), n, flags(x.start), x.l, true), x.all)
	}
}

// TestAtOnce: at one step all happens: first each Kill, then each Gen, in whatever order they are told.
func TestAtOnce(t *testing.T) {
	for _, l := range [][]graph.Change{
		{change(0, 0, "01", "12")},
		{change(0, 0, "0", ""), change(0, 0, "1", "1"), change(0, 0, "", "2")},
		{change(0, 0, "01", ""), change(0, 0, "", "12")},
		{change(0, 0, "", "12"), change(0, 0, "10", "")},
		{change(0, 0, "1", "2"), change(0, 0, "01", "1"), change(0, 0, "0", "0")},
		{change(0, 0, "0011", "1212")},
	} {
		is(t, "nothing ahead", graph.Flow(body("1>"), 4, nil, l, false), ".0000 .1100 .1100")
		is(t, "all ahead", graph.Flow(body("1>"), 4, flags("1111"), l, true), ".1111 .1101 .1101")
		is(t, "back", graph.Back(body("1>"), 4, l), ".1100 .0000 .0000")
	}
	l := []graph.Change{change(0, 1, "0", "0"), change(0, 1, "1", "2"), change(1, 0, "2", "")}
	is(t, "at an end", graph.Flow(body("1>1 0>"), 3, flags("001"), l, false), ".001 .001 .110 | .110 .111")
	is(t, "back at an end", graph.Back(body("1>1 0>"), 3, l), ".110 .110 .001 | .001 .000")
}

// TestCount: of flags there are n, whatever starts, and is changed.
func TestCount(t *testing.T) {
	l := []graph.Change{change(0, 0, "012", ""), {Block: 0, Step: 0, Gen: []int{-1, 9, 1 << 62}, Kill: []int{-1 << 63, 1<<63 - 1}}}
	for _, x := range []struct {
		n          int
		start      string
		want, back string
	}{
		{3, "", ".000 .111 .111", ".111 .000 .000"},
		{3, "01", ".010 .111 .111", ".111 .000 .000"},
		{2, "0111", ".01 .11 .11", ".11 .00 .00"},
		{1, "", ".0 .1 .1", ".1 .0 .0"},
		{0, "11", ". . .", ". . ."},
		{-1, "11", ". . .", ". . ."},
		{-1 << 63, "", ". . .", ". . ."},
	} {
		is(t, "one", graph.Flow(body("1>"), x.n, flags(x.start), l, false), x.want)
		is(t, "every", graph.Flow(body("1>"), x.n, flags(x.start), l, true), x.want)
		is(t, "back", graph.Back(body("1>"), x.n, l), x.back)
	}
	is(t, "a flag kept from being made by none", graph.Flow(body("1>"), 2, flags("11"), []graph.Change{{Kill: []int{-1, 2, 1}}}, true), ".11 .10 .10")
	is(t, "flags of no body", graph.Flow(api.Body{}, 1<<62, []bool{true}, l, true), "")
	is(t, "flags of no body", graph.Back(api.Body{}, 1<<62, l), "")
}

// TestNoPlace: changes whose places are not in the body count for nothing.
func TestNoPlace(t *testing.T) {
	var l []graph.Change
	for _, x := range [][2]int{{-1, 0}, {2, 0}, {1 << 62, 0}, {-1 << 63, 0}, {0, -1}, {0, 2}, {1, 1}, {0, 1<<63 - 1}, {1, -1 << 63}} {
		l = append(l, graph.Change{Block: x[0], Step: x[1], Gen: []int{0}, Kill: []int{1}})
	}
	is(t, "one", graph.Flow(body("1>1 0>"), 2, flags("01"), l, false), ".01 .01 .01 | .01 .01")
	is(t, "every", graph.Flow(body("1>1 0>"), 2, flags("01"), l, true), ".01 .01 .01 | .01 .01")
	is(t, "back", graph.Back(body("1>1 0>"), 2, append(l, change(1, 0, "1", ""))), ".01 .01 .01 | .01 .00")
	is(t, "a place of a block that is not reached", graph.Flow(body("0> 0>"), 1, nil, []graph.Change{change(1, 0, "0", "")}, false), ".0 .0 | nil")
}

// TestBack: what is needed later, of all blocks.
func TestBack(t *testing.T) {
	for _, x := range []struct {
		about, body, want string
		l                 []graph.Change
	}{
		{"no blocks", "", "", nil},
		{"nothing", "1>", ".00 .00 .00", nil},
		{"each step", "2>", ".10 .01 .10 .00", []graph.Change{change(0, 0, "0", "1"), change(0, 1, "1", "0"), change(0, 2, "0", "")}},
		{"set, and used later", "3>", ".0 .1 .1 .0 .0", []graph.Change{change(0, 0, "", "0"), change(0, 2, "0", "")}},
		{"used on one way", "0>1,2 1> 1>", ".11 .11 | .10 .00 .00 | .01 .00 .00", []graph.Change{change(1, 0, "0", ""), change(2, 0, "1", "0")}},
		{"set on one way", "0>1,2 1>3 0>3 0>", ".1 .1 | .0 .1 .1 | .1 .1 | .1 .0", []graph.Change{change(1, 0, "", "0"), change(3, 0, "0", "")}},
		{"round and round", "0>1 0>2,3 1>1 0>", ".10 .10 | .10 .10 | .10 .10 .10 | .00 .00", []graph.Change{change(2, 0, "0", "")}},
		{"a ring alone", "0>0", ".0 .0", nil},
		{"that uses", "1>0", ".1 .1 .1", []graph.Change{change(0, 0, "0", "")}},
		{"that sets, and uses behind that", "1>0", ".0 .1 .0", []graph.Change{change(0, 0, "", "0"), change(0, 1, "0", "")}},
		{"blocks that are not reached", "0> 0>2 1>1,0", ".0 .0 | .1 .1 | .1 .1 .1", []graph.Change{change(2, 0, "0", "")}},
		{"no such blocks", "0>-1,2 1>9", ".0 .0 | .1 .0 .0", []graph.Change{change(1, 0, "0", "")}},
		{"blocks the other way round", "0>3 1> 0>1 0>2", ".1 .1 | .1 .0 .0 | .1 .1 | .1 .1", []graph.Change{change(1, 0, "0", "")}},
	} {
		n := 1
		if len(x.want) > 2 && x.want[2] != ' ' {
			n = 2
		}
		is(t, x.about, graph.Back(body(x.body), n, x.l), x.want)
	}
}
