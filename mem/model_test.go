package mem_test

import (
	"testing"

	"cocoon/api"
	"cocoon/mem"
)

// spot is a word of an allocation.
type spot struct{ a, n int }

// model is a memory as the chapter tells it: the sizes of what is not freed, and the words that are stored.
type model struct {
	room, made int
	sizes      map[int]int
	words      map[spot]api.Word
}

func (m *model) used() int {
	all := 0
	for _, n := range m.sizes {
		all += n
	}
	return all
}

func (m *model) alloc(n int) (api.Word, api.Errno) {
	if n < 0 {
		return api.Word{}, api.ErrArg
	}
	if m.used()+n > m.room {
		return api.Word{}, api.ErrMemory
	}
	m.made++
	m.sizes[m.made] = n
	return ptr(m.made, 0), api.OK
}

func (m *model) check(p api.Word) api.Errno {
	if !p.Ptr {
		return api.ErrKind
	}
	if p.A < 1 || p.A > m.made {
		return api.ErrRange
	}
	if _, ok := m.sizes[p.A]; !ok {
		return api.ErrFreed
	}
	return api.OK
}

func (m *model) free(p api.Word) api.Errno {
	if e := m.check(p); e != api.OK {
		return e
	}
	if p.N != 0 {
		return api.ErrRange
	}
	for i := range m.sizes[p.A] {
		delete(m.words, spot{p.A, i})
	}
	delete(m.sizes, p.A)
	return api.OK
}

func (m *model) load(p api.Word) (api.Word, api.Errno) {
	if e := m.all(p, 1); e != api.OK {
		return api.Word{}, e
	}
	w, ok := m.words[spot{p.A, p.N}]
	if !ok {
		return api.Word{}, api.ErrInit
	}
	return w, api.OK
}

// all is the check of an address, and whether n words stand there.
func (m *model) all(p api.Word, n int) api.Errno {
	if e := m.check(p); e != api.OK {
		return e
	}
	if p.N < 0 || p.N+n > m.sizes[p.A] {
		return api.ErrRange
	}
	return api.OK
}

func (m *model) store(p, w api.Word) api.Errno {
	if e := m.all(p, 1); e != api.OK {
		return e
	}
	m.words[spot{p.A, p.N}] = w
	return api.OK
}

func (m *model) copy(to, from api.Word, n int) api.Errno {
	if n < 0 {
		return api.ErrArg
	}
	var l []api.Word
	for i := range n {
		p := from
		p.N += i
		w, e := m.load(p)
		if e != api.OK {
			return e
		}
		l = append(l, w)
	}
	if e := m.all(to, n); e != api.OK {
		return e
	}
	for i, w := range l {
		m.words[spot{to.A, to.N + i}] = w
	}
	return api.OK
}

func (m *model) clear(p api.Word, n int) api.Errno {
	if n < 0 {
		return api.ErrArg
	}
	if e := m.all(p, n); e != api.OK {
		return e
	}
	for i := range n {
		delete(m.words, spot{p.A, p.N + i})
	}
	return api.OK
}

// dice throws numbers that are the same in each run.
type dice uint64

func (d *dice) to(n int) int {
	*d = *d*6364136223846793005 + 1442695040888963407
	return int(uint64(*d)>>33) % n
}

// address is one that may be right, and may be wrong in each of the ways.
func (d *dice) address(made int) api.Word {
	if d.to(30) == 0 {
		return num(d.to(4))
	}
	return ptr(made-d.to(5)+d.to(10)/9, d.to(6)-d.to(6)/5)
}

// both is a memory, and the model that it must be like.
type both struct {
	*testing.T
	m *mem.Memory
	o *model
}

// same fails, if any word or number of the memory is not the model's.
func (b both) same(step int) {
	b.Helper()
	if b.m.Live() != len(b.o.sizes) || b.m.Words() != b.o.used() {
		b.Fatalf("step %d: Live, Words: %d, %d, want %d, %d", step, b.m.Live(), b.m.Words(), len(b.o.sizes), b.o.used())
	}
	for a := b.o.made - 6; a <= b.o.made+1; a++ {
		for n := -1; n < 8; n++ {
			w, e := b.m.Load(ptr(a, n))
			ow, oe := b.o.load(ptr(a, n))
			if w != ow || e != oe || b.m.Set(ptr(a, n)) != (oe == api.OK) {
				b.Fatalf("step %d: word %d of %d: %v, %v, want %v, %v", step, n, a, w, e, ow, oe)
			}
		}
	}
}

// act does one thing to both, and tells what came out.
func (b both) act(d *dice) (got, wanted api.Errno) {
	p, q := d.address(b.o.made), d.address(b.o.made)
	n := d.to(6) - 1
	switch d.to(8) {
	case 0:
		x, e := b.m.Alloc(n)
		ox, oe := b.o.alloc(n)
		if x != ox {
			b.Fatalf("Alloc(%d): %v, want %v", n, x, ox)
		}
		return e, oe
	case 1:
		return b.m.Free(p), b.o.free(p)
	case 2, 3:
		return b.m.Copy(p, q, n), b.o.copy(p, q, n)
	case 4:
		return b.m.Clear(p, n), b.o.clear(p, n)
	}
	w := num(d.to(1000))
	if n == 0 {
		w = q
	}
	return b.m.Store(p, w), b.o.store(p, w)
}

// TestModel does the same to a memory and to the model: what was stored is loaded, till it is stored anew, cleared, or freed, and nothing else changes by that.
func TestModel(t *testing.T) {
	for seed := range 40 {
		d := dice(seed)
		o := &model{room: 4 + seed, sizes: map[int]int{}, words: map[spot]api.Word{}}
		b := both{t, mem.New(o.room), o}
		for step := range 400 {
			if got, wanted := b.act(&d); got != wanted {
				t.Fatalf("seed %d, step %d: %v, want %v", seed, step, got, wanted)
			}
			b.same(step)
		}
	}
}
