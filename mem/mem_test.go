package mem_test

import (
	"math"
	"testing"

	"cocoon/api"
	"cocoon/mem"
)

func num(n int) api.Word { return api.Word{N: n} }

func ptr(a, n int) api.Word { return api.Word{Ptr: true, A: a, N: n} }

// want fails, if an error is not the one that is wanted.
func want(t *testing.T, what string, got, wanted api.Errno) {
	t.Helper()
	if got != wanted {
		t.Errorf("%s: %v, want %v", what, got, wanted)
	}
}

// alloc makes an allocation that must have that number.
func alloc(t *testing.T, m *mem.Memory, n, number int) api.Word {
	t.Helper()
	p, e := m.Alloc(n)
	if p != ptr(number, 0) || e != api.OK {
		t.Fatalf("Alloc(%d): %v, %v, want the address of word 0 of %d", n, p, e, number)
	}
	return p
}

// load fails, if another word stands there.
func load(t *testing.T, m *mem.Memory, p, wanted api.Word) {
	t.Helper()
	if w, e := m.Load(p); w != wanted || e != api.OK {
		t.Errorf("Load(%v): %v, %v, want %v", p, w, e, wanted)
	}
	if !m.Set(p) {
		t.Errorf("Set(%v): false", p)
	}
}

// noLoad fails, if the word can be loaded, or can't for another reason.
func noLoad(t *testing.T, m *mem.Memory, p api.Word, wanted api.Errno) {
	t.Helper()
	if w, e := m.Load(p); w != (api.Word{}) || e != wanted {
		t.Errorf("Load(%v): %v, %v, want a zero word and %v", p, w, e, wanted)
	}
	if m.Set(p) {
		t.Errorf("Set(%v): true", p)
	}
}

// count fails, if there are not so many allocations with so many words.
func count(t *testing.T, m *mem.Memory, live, words int) {
	t.Helper()
	if m.Live() != live || m.Words() != words {
		t.Errorf("Live, Words: %d, %d, want %d, %d", m.Live(), m.Words(), live, words)
	}
}

// filled is a memory of room 16, with allocation 1 of the words 10, 11, 12, 13, and allocation 2 of 3 words without any.
func filled(t *testing.T) *mem.Memory {
	t.Helper()
	m := mem.New(16)
	alloc(t, m, 4, 1)
	alloc(t, m, 3, 2)
	for i := range 4 {
		want(t, "Store", m.Store(ptr(1, i), num(10+i)), api.OK)
	}
	return m
}

func TestNewRoom(t *testing.T) {
	for _, x := range []struct{ words, room int }{
		{0, 0}, {-1, 0}, {math.MinInt, 0}, {1, 1}, {7, 7},
		{api.MaxWords - 1, api.MaxWords - 1}, {api.MaxWords, api.MaxWords},
		{api.MaxWords + 1, api.MaxWords}, {math.MaxInt, api.MaxWords},
	} {
		m := mem.New(x.words)
		count(t, m, 0, 0)
		if p, e := m.Alloc(x.room + 1); p != (api.Word{}) || e != api.ErrMemory {
			t.Errorf("New(%d): Alloc(%d): %v, %v", x.words, x.room+1, p, e)
		}
		alloc(t, m, x.room, 1)
		count(t, m, 1, x.room)
		if p, e := m.Alloc(1); p != (api.Word{}) || e != api.ErrMemory {
			t.Errorf("New(%d): Alloc(1) without room: %v, %v", x.words, p, e)
		}
		alloc(t, m, 0, 2)
		count(t, m, 2, x.room)
	}
}

func TestAllocErrors(t *testing.T) {
	m := mem.New(4)
	alloc(t, m, 3, 1)
	for _, x := range []struct {
		n int
		e api.Errno
	}{
		{-1, api.ErrArg}, {math.MinInt, api.ErrArg},
		{2, api.ErrMemory}, {4, api.ErrMemory}, {math.MaxInt, api.ErrMemory}, {math.MaxInt - 2, api.ErrMemory},
	} {
		if p, e := m.Alloc(x.n); p != (api.Word{}) || e != x.e {
			t.Errorf("Alloc(%d): %v, %v, want a zero word and %v", x.n, p, e, x.e)
		}
		count(t, m, 1, 3)
	}
	alloc(t, m, 1, 2) // what was refused took no number
	if _, e := m.Alloc(-1); e != api.ErrArg {
		t.Errorf("Alloc(-1) without room: %v", e)
	}
}

func TestAllocNumbers(t *testing.T) {
	m := mem.New(5)
	for i := range 20 {
		p := alloc(t, m, 5, i+1)
		noLoad(t, m, p, api.ErrInit)
		for j := range 5 {
			noLoad(t, m, ptr(i+1, j), api.ErrInit)
			want(t, "Store", m.Store(ptr(i+1, j), num(j)), api.OK)
		}
		want(t, "Free", m.Free(p), api.OK)
		want(t, "Free again", m.Free(p), api.ErrFreed)
		count(t, m, 0, 0)
	}
	noLoad(t, m, ptr(20, 0), api.ErrFreed)
	noLoad(t, m, ptr(21, 0), api.ErrRange)
}

// TestChecks asks each call that checks an address, with each address that can't be, and with each word that there is not.
func TestChecks(t *testing.T) {
	m := filled(t)
	alloc(t, m, 2, 3)
	want(t, "Store", m.Store(ptr(3, 0), num(5)), api.OK)
	want(t, "Free", m.Free(ptr(3, 0)), api.OK)
	for _, x := range []struct {
		p    api.Word
		e    api.Errno
		free api.Errno
	}{
		{num(1), api.ErrKind, api.ErrKind},
		{api.Word{A: 1}, api.ErrKind, api.ErrKind},
		{api.Word{A: 3, N: 9}, api.ErrKind, api.ErrKind},
		{api.Word{}, api.ErrKind, api.ErrKind},
		{ptr(0, 0), api.ErrRange, api.ErrRange},
		{ptr(-1, 0), api.ErrRange, api.ErrRange},
		{ptr(math.MinInt, 0), api.ErrRange, api.ErrRange},
		{ptr(4, 0), api.ErrRange, api.ErrRange},
		{ptr(math.MaxInt, 0), api.ErrRange, api.ErrRange},
		{ptr(3, 0), api.ErrFreed, api.ErrFreed},
		{ptr(3, 7), api.ErrFreed, api.ErrFreed},
		{ptr(3, -7), api.ErrFreed, api.ErrFreed},
		{ptr(1, 4), api.ErrRange, api.ErrRange},
		{ptr(1, -1), api.ErrRange, api.ErrRange},
		{ptr(1, math.MaxInt), api.ErrRange, api.ErrRange},
		{ptr(1, math.MinInt), api.ErrRange, api.ErrRange},
	} {
		noLoad(t, m, x.p, x.e)
		want(t, "Store", m.Store(x.p, num(9)), x.e)
		want(t, "Copy to", m.Copy(x.p, ptr(1, 0), 1), x.e)
		want(t, "Copy from", m.Copy(ptr(2, 0), x.p, 1), x.e)
		want(t, "Clear", m.Clear(x.p, 1), x.e)
		want(t, "Free", m.Free(x.p), x.free)
		count(t, m, 2, 7)
	}
	for i := range 4 {
		load(t, m, ptr(1, i), num(10+i))
	}
	for i := range 3 {
		noLoad(t, m, ptr(2, i), api.ErrInit)
	}
}

func TestFree(t *testing.T) {
	m := filled(t)
	for _, n := range []int{1, 3, 4, -1, math.MaxInt, math.MinInt} {
		want(t, "Free behind word 0", m.Free(ptr(1, n)), api.ErrRange)
	}
	count(t, m, 2, 7)
	load(t, m, ptr(1, 0), num(10))
	want(t, "Free", m.Free(ptr(1, 0)), api.OK)
	count(t, m, 1, 3)
	want(t, "Free of what is freed", m.Free(ptr(1, 1)), api.ErrFreed)
	want(t, "Store", m.Store(ptr(2, 0), num(1)), api.OK)
	load(t, m, ptr(2, 0), num(1))
	alloc(t, m, 13, 3) // all of the room that was freed
	if _, e := m.Alloc(1); e != api.ErrMemory {
		t.Errorf("Alloc(1) without room: %v", e)
	}
	alloc(t, m, 0, 4)
	noLoad(t, m, ptr(4, 0), api.ErrRange)
	want(t, "Free without words", m.Free(ptr(4, 0)), api.OK)
	want(t, "Free without words again", m.Free(ptr(4, 0)), api.ErrFreed)
}

// TestStoreWords stores words of all looks: they come back as they were.
func TestStoreWords(t *testing.T) {
	m := mem.New(2)
	p := alloc(t, m, 2, 1)
	for _, w := range []api.Word{
		num(0), num(-1), num(math.MaxInt), num(math.MinInt),
		ptr(1, 0), ptr(1, 1), ptr(0, 0), ptr(77, -3), ptr(-1, math.MinInt),
	} {
		want(t, "Store", m.Store(p, w), api.OK)
		load(t, m, p, w)
		noLoad(t, m, ptr(1, 1), api.ErrInit)
	}
	want(t, "Store behind", m.Store(ptr(1, 2), num(4)), api.ErrRange)
	want(t, "Store", m.Store(ptr(1, 1), num(4)), api.OK)
	load(t, m, p, ptr(-1, math.MinInt))
}

func TestCopy(t *testing.T) {
	m := filled(t)
	want(t, "Store", m.Store(ptr(1, 2), ptr(9, -9)), api.OK)
	want(t, "Copy", m.Copy(ptr(2, 0), ptr(1, 1), 3), api.OK)
	for i, w := range []api.Word{num(11), ptr(9, -9), num(13)} {
		load(t, m, ptr(2, i), w)
		load(t, m, ptr(1, i+1), w)
	}
	load(t, m, ptr(1, 0), num(10))
	want(t, "Store", m.Store(ptr(2, 0), num(1)), api.OK) // what was copied is not the same words
	load(t, m, ptr(1, 1), num(11))
}

// TestCopyNothing copies no words: the address that they come from is not looked at.
func TestCopyNothing(t *testing.T) {
	m := filled(t)
	alloc(t, m, 1, 3)
	want(t, "Free", m.Free(ptr(3, 0)), api.OK)
	for _, from := range []api.Word{num(3), ptr(0, 0), ptr(3, 0), ptr(1, 9), ptr(1, -9), ptr(2, 0)} {
		for _, x := range []struct {
			to api.Word
			e  api.Errno
		}{
			{ptr(1, 0), api.OK}, {ptr(1, 4), api.OK}, {ptr(2, 3), api.OK},
			{ptr(1, 5), api.ErrRange}, {ptr(1, -1), api.ErrRange}, {ptr(1, math.MaxInt), api.ErrRange},
			{ptr(1, math.MinInt), api.ErrRange}, {ptr(4, 0), api.ErrRange}, {ptr(0, 0), api.ErrRange},
			{ptr(3, 0), api.ErrFreed}, {num(1), api.ErrKind},
		} {
			if e := m.Copy(x.to, from, 0); e != x.e {
				t.Errorf("Copy(%v, %v, 0): %v, want %v", x.to, from, e, x.e)
			}
		}
	}
	load(t, m, ptr(1, 0), num(10))
	noLoad(t, m, ptr(2, 0), api.ErrInit)
}

func TestCopyOverlap(t *testing.T) {
	for _, x := range []struct {
		to, from, n int
		words       []int
	}{
		{1, 0, 3, []int{10, 10, 11, 12}},
		{0, 1, 3, []int{11, 12, 13, 13}},
		{0, 2, 2, []int{12, 13, 12, 13}},
		{2, 1, 2, []int{10, 11, 11, 12}},
		{1, 1, 3, []int{10, 11, 12, 13}},
		{0, 0, 4, []int{10, 11, 12, 13}},
	} {
		m := filled(t)
		want(t, "Copy", m.Copy(ptr(1, x.to), ptr(1, x.from), x.n), api.OK)
		for i, n := range x.words {
			load(t, m, ptr(1, i), num(n))
		}
	}
}

// TestCopyErrors asks for more than one thing that is wrong: what comes first in the order of the chapter is told, and nothing is changed.
func TestCopyErrors(t *testing.T) {
	m := filled(t)
	want(t, "Clear", m.Clear(ptr(1, 2), 1), api.OK)
	alloc(t, m, 1, 3)
	want(t, "Free", m.Free(ptr(3, 0)), api.OK)
	for _, x := range []struct {
		to, from api.Word
		n        int
		e        api.Errno
	}{
		{num(0), num(0), -1, api.ErrArg},
		{ptr(2, 0), ptr(1, 0), math.MinInt, api.ErrArg},
		{num(0), ptr(0, 0), 1, api.ErrRange},
		{num(0), ptr(3, 0), 1, api.ErrFreed},
		{ptr(3, 0), num(0), 1, api.ErrKind},
		{ptr(3, 0), ptr(1, 2), 1, api.ErrInit},
		{ptr(3, 0), ptr(1, 4), 1, api.ErrRange},
		{ptr(3, 0), ptr(1, 0), 1, api.ErrFreed},
		{num(0), ptr(1, 0), 2, api.ErrKind},
		{num(0), ptr(1, 0), 3, api.ErrInit},
		{num(0), ptr(1, 0), math.MaxInt, api.ErrInit},
		{num(0), ptr(1, 3), 1, api.ErrKind},
		{num(0), ptr(1, 3), 2, api.ErrRange},
		{num(0), ptr(1, 3), math.MaxInt, api.ErrRange},
		{ptr(2, 0), ptr(1, -1), 2, api.ErrRange},
		{ptr(2, 0), ptr(1, -1), math.MaxInt, api.ErrRange},
		{ptr(2, 0), ptr(1, math.MaxInt), math.MaxInt, api.ErrRange},
		{ptr(2, 0), ptr(2, 0), 4, api.ErrInit},
		{ptr(2, 2), ptr(1, 0), 2, api.ErrRange},
		{ptr(2, 3), ptr(1, 0), 1, api.ErrRange},
		{ptr(2, -1), ptr(1, 0), 2, api.ErrRange},
		{ptr(2, -2), ptr(1, 0), 2, api.ErrRange},
		{ptr(2, math.MaxInt), ptr(1, 0), 2, api.ErrRange},
		{ptr(2, math.MinInt), ptr(1, 0), 2, api.ErrRange},
	} {
		if e := m.Copy(x.to, x.from, x.n); e != x.e {
			t.Errorf("Copy(%v, %v, %d): %v, want %v", x.to, x.from, x.n, e, x.e)
		}
	}
	for i, n := range []int{10, 11, 0, 13} {
		if i != 2 {
			load(t, m, ptr(1, i), num(n))
		}
		if i < 3 {
			noLoad(t, m, ptr(2, i), api.ErrInit)
		}
	}
}

func TestClear(t *testing.T) {
	m := filled(t)
	for _, x := range []struct {
		p api.Word
		n int
		e api.Errno
	}{
		{num(0), -1, api.ErrArg}, {ptr(1, 0), -1, api.ErrArg}, {ptr(1, 0), math.MinInt, api.ErrArg},
		{num(0), 0, api.ErrKind}, {ptr(0, 0), 0, api.ErrRange}, {ptr(3, 0), 0, api.ErrRange},
		{ptr(1, 0), 5, api.ErrRange}, {ptr(1, 3), 2, api.ErrRange}, {ptr(1, -1), 2, api.ErrRange},
		{ptr(1, 4), 1, api.ErrRange}, {ptr(1, 5), 0, api.ErrRange}, {ptr(1, -1), 0, api.ErrRange},
		{ptr(1, 1), math.MaxInt, api.ErrRange}, {ptr(1, math.MaxInt), math.MaxInt, api.ErrRange},
		{ptr(1, math.MinInt), math.MaxInt, api.ErrRange}, {ptr(1, math.MinInt), 0, api.ErrRange},
		{ptr(1, 4), 0, api.OK}, {ptr(1, 0), 0, api.OK},
	} {
		if e := m.Clear(x.p, x.n); e != x.e {
			t.Errorf("Clear(%v, %d): %v, want %v", x.p, x.n, e, x.e)
		}
		for i := range 4 {
			load(t, m, ptr(1, i), num(10+i))
		}
	}
	want(t, "Clear", m.Clear(ptr(1, 1), 2), api.OK)
	load(t, m, ptr(1, 0), num(10))
	noLoad(t, m, ptr(1, 1), api.ErrInit)
	noLoad(t, m, ptr(1, 2), api.ErrInit)
	load(t, m, ptr(1, 3), num(13))
	count(t, m, 2, 7) // the words have their room still
	want(t, "Clear of what is no more", m.Clear(ptr(1, 0), 4), api.OK)
	noLoad(t, m, ptr(1, 3), api.ErrInit)
	want(t, "Store", m.Store(ptr(1, 1), num(5)), api.OK)
	load(t, m, ptr(1, 1), num(5))
	want(t, "Free", m.Free(ptr(1, 0)), api.OK)
	want(t, "Clear of what is freed", m.Clear(ptr(1, 0), 9), api.ErrFreed)
}

func TestOff(t *testing.T) {
	for _, x := range []struct {
		p    api.Word
		n    int
		to   api.Word
		errs api.Errno
	}{
		{ptr(2, 1), 3, ptr(2, 4), api.OK},
		{ptr(2, 1), 0, ptr(2, 1), api.OK},
		{ptr(2, 1), -3, ptr(2, -2), api.OK},
		{ptr(0, 0), 1, ptr(0, 1), api.OK},
		{ptr(-5, -7), -1, ptr(-5, -8), api.OK},
		{ptr(1, math.MaxInt), 1, ptr(1, math.MinInt), api.OK},
		{ptr(1, math.MinInt), -1, ptr(1, math.MaxInt), api.OK},
		{num(2), 1, api.Word{}, api.ErrKind},
		{api.Word{A: 2, N: 2}, 1, api.Word{}, api.ErrKind},
		{api.Word{}, 0, api.Word{}, api.ErrKind},
	} {
		if p, e := mem.Off(x.p, x.n); p != x.to || e != x.errs {
			t.Errorf("Off(%v, %d): %v, %v, want %v, %v", x.p, x.n, p, e, x.to, x.errs)
		}
	}
}

// TestApart has two memories: what is done to the one is not seen in the other.
func TestApart(t *testing.T) {
	a, b := mem.New(3), mem.New(3)
	alloc(t, a, 3, 1)
	want(t, "Store", a.Store(ptr(1, 0), num(1)), api.OK)
	count(t, b, 0, 0)
	noLoad(t, b, ptr(1, 0), api.ErrRange)
	alloc(t, b, 2, 1)
	noLoad(t, b, ptr(1, 0), api.ErrInit)
	want(t, "Store", b.Store(ptr(1, 0), num(2)), api.OK)
	want(t, "Free", a.Free(ptr(1, 0)), api.OK)
	load(t, b, ptr(1, 0), num(2))
	count(t, b, 1, 2)
	noLoad(t, a, ptr(1, 0), api.ErrFreed)
}
