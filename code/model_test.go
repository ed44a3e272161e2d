package code_test

import (
	"slices"
	"testing"

	"cocoon/api"
)

// dice are numbers one behind the other, always the same ones.
type dice uint64

func (d *dice) roll(n int) int {
	*d = *d*6364136223846793005 + 1442695040888963407
	return int(uint64(*d) >> 33 % uint64(n))
}

// reaches tells, by going all ways with all sets of registers that are written there, whether none is read ahead.
func reaches(fun []api.Ins, first uint) bool {
	type spot struct {
		place   int
		written uint
	}
	seen := map[spot]bool{}
	todo := []spot{{0, first}}
	for len(todo) > 0 {
		s := todo[0]
		todo = todo[1:]
		if seen[s] {
			continue
		}
		seen[s] = true
		x := fun[s.place]
		r := rows()[x.Op]
		for i := range r.reads {
			if s.written>>*field(&x, r.reads[i])&1 == 0 {
				return false
			}
		}
		if r.writes != "" {
			s.written |= 1 << *field(&x, r.writes[0])
		}
		for _, l := range x.L {
			todo = append(todo, spot{l, s.written})
		}
		if !slices.Contains([]api.Op{api.OpJump, api.OpTable, api.OpReturn, api.OpAbort, api.OpEnd}, x.Op) {
			todo = append(todo, spot{s.place + 1, s.written})
		}
	}
	return true
}

// someIns is an instruction that may stand in a function of that kind and length; of few registers, so that many are read ahead.
func someIns(d *dice, kind, length int) api.Ins {
	for {
		r := rows()[d.roll(30)]
		if !slices.Contains(stands(r.op), kind) {
			continue
		}
		x := api.Ins{Op: r.op}
		for _, letter := range r.reads + r.writes {
			*field(&x, byte(letter)) = d.roll(3)
		}
		if r.labels != "" {
			x.L = append(x.L, d.roll(length))
		}
		for r.labels == "1+" && d.roll(3) > 0 {
			x.L = append(x.L, d.roll(length))
		}
		return x
	}
}

// TestModel holds what is told of many functions against all ways through them.
func TestModel(t *testing.T) {
	d := dice(5)
	count := map[bool]int{}
	for range 20000 {
		kind := d.roll(3)
		n := 2 + d.roll(9)
		fun := []api.Ins{}
		for i := range n {
			x := someIns(&d, kind, n)
			if i < 3 && d.roll(2) == 0 {
				x = set(d.roll(3))
			}
			fun = append(fun, x)
		}
		last := in(api.OpEnd, 0, 0, 0)
		if kind == resume {
			last.Op = api.OpAbort
		}
		fun[n-1] = last
		first := uint(0)
		if kind == glue {
			first = 1
		}
		want := reaches(fun, first)
		count[want]++
		may(t, "against all ways", of(kind, fun...), want)
		if t.Failed() {
			return
		}
		spoil(t, &d, kind, fun)
	}
	if count[true] < 1000 || count[false] < 1000 {
		t.Errorf("%d right ones, %d wrong ones: too few to tell", count[true], count[false])
	}
}

// spoil makes one instruction a wrong one: then the function may not be run, reached or not.
func spoil(t *testing.T, d *dice, kind int, fun []api.Ins) {
	t.Helper()
	x := &fun[d.roll(len(fun))]
	r := rows()[x.Op]
	letter := "ABC"[d.roll(3)]
	switch _, no := allowed(r, string(letter)); {
	case d.roll(2) == 0 && len(no) > 0:
		*field(x, letter) = no[d.roll(len(no))]
	case r.labels == "":
		x.L = []int{0}
	case d.roll(2) == 0:
		x.L = nil
	default:
		x.L = append(x.L, -1)
	}
	may(t, "with a wrong one", of(kind, fun...), false)
}
