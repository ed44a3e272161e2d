package mir_test

import (
	"reflect"
	"strconv"
	"strings"
	"testing"

	"cocoon/api"
	"cocoon/mir"
)

func itoa(n int) string { return strconv.Itoa(n) }

// told is a form with what its words stand for.
func told(form string, ok bool, s api.Spot, v api.Value, u api.Use, to []int) string {
	if !ok {
		return "?"
	}
	words := strings.Fields(form)
	for i, x := range words {
		switch x {
		case "L":
			words[i] = itoa(s.Local)
		case "S":
			words[i] = toldSpot(s)
		case "U":
			words[i] = toldUse(u)
		case "V":
			words[i] = toldValue(v)
		case "Tag":
			words[i] = itoa(v.Tag)
		case "Local":
			words[i] = itoa(v.S.Local)
		case "..":
			words = words[:i]
			for _, n := range to {
				words = append(words, itoa(n))
			}
		}
	}
	return strings.Join(words, " ")
}

func toldSpot(x api.Spot) string {
	out := itoa(x.Local)
	for _, n := range x.Path {
		out += "." + itoa(n)
	}
	return out
}

func toldUse(u api.Use) string {
	if u.Num {
		return "#" + itoa(u.N)
	}
	return map[bool]string{true: "move ", false: "copy "}[u.Move] + toldSpot(u.S)
}

func toldValue(v api.Value) string {
	words := []string{itoa(int(v.K)), itoa(v.Which), itoa(v.Tag)}
	for _, u := range v.Uses {
		words = append(words, toldUse(u))
	}
	switch v.K {
	case api.RvRef, api.RvMut, api.RvUnbox:
		words = append(words, toldSpot(v.S))
	}
	return strings.Join(words, " ")
}

// agrees fails, if what is told of a body is not what the model tells of it.
func agrees(t *testing.T, s api.Source, b api.Body) bool {
	t.Helper()
	m := model{s, b}
	want := m.valid()
	if got := mir.Valid(s, b); got != want {
		t.Fatalf("valid is %v of\n%s%+v", got, m.text(), b)
	}
	if got := mir.Text(b); got != m.text() {
		t.Fatalf("%s\nwant\n%s", got, m.text())
	}
	return want
}

// TestMade: what is made right may be; its text is read as the same body; and it stays right behind one more block.
func TestMade(t *testing.T) {
	d := dice(3)
	m := newMaker(t, &d)
	for range 600 {
		b := m.body()
		was := cloned(b)
		if !agrees(t, m.Source, b) {
			t.Fatalf("it may not be:\n%s", mir.Text(b))
		}
		if again := read(t, m.Source, mir.Text(b)); !reflect.DeepEqual(bare(again), bare(b)) {
			t.Fatalf("%+v\nis read as\n%+v", b, again)
		}
		more(t, mir.Text(b), m.Source, b)
		if !reflect.DeepEqual(b, was) {
			t.Fatalf("%+v\nwas\n%+v", b, was)
		}
	}
}

// TestModel holds what is told of many bodies, most of them wrong, against the model.
func TestModel(t *testing.T) {
	d := dice(5)
	right := 0
	const n = 12000
	m := newMaker(t, &d)
	for range n {
		b := m.body()
		for range 1 + d.roll(2) {
			m.spoil(&b)
		}
		was := cloned(b)
		if agrees(t, m.Source, b) {
			right++
		}
		if !reflect.DeepEqual(b, was) {
			t.Fatalf("%+v\nwas\n%+v", b, was)
		}
	}
	if right < n/20 || right > n/2 {
		t.Errorf("%d of %d are right, too few or too many to tell", right, n)
	}
}

// TestModelAsks holds what is told of many spots and values against the model.
func TestModelAsks(t *testing.T) {
	d := dice(9)
	m := newMaker(t, &d)
	count := map[api.Errno]int{}
	for range 60000 {
		x, v := m.anySpot(), m.anyValue()
		wasX, wasV := cloned(x), cloned(v)
		want, shared, ok := m.spot(x)
		wrong := api.OK
		if !ok {
			want, wrong = api.Ty{}, api.ErrPlace
		}
		typeIs(t, m.Source, m.Body, x, want, shared, wrong)
		want, wrong = m.value(v)
		valueIs(t, m.Source, m.Body, v, want, wrong)
		if t.Failed() || !reflect.DeepEqual(x, wasX) || !reflect.DeepEqual(v, wasV) {
			t.Fatalf("%+v, was %+v; %+v, was %+v", x, wasX, v, wasV)
		}
		count[wrong]++
	}
	for _, err := range []api.Errno{api.OK, api.ErrUnknown, api.ErrHold, api.ErrType, api.ErrCount, api.ErrVariant, api.ErrPlace} {
		if count[err] < 150 {
			t.Errorf("%d values with %v, too few to tell", count[err], err)
		}
	}
}
