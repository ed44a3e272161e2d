// Package mem is layer 1: a memory that tells each misuse. See shared/doc/01-mem.md.
package mem

import "cocoon/api"

// Memory is words that were stored, or not.
type Memory struct {
	room  int            // how many words there may be at once
	words int            // how many there are
	made  int            // how many allocations there ever were
	live  map[int][]cell // those that are not freed, by their numbers
}

// cell is a word's room; the zero cell is one where nothing was stored.
type cell struct {
	word   api.Word
	stored bool
}

// New is a memory with room for so many words.
func New(words int) *Memory {
	return &Memory{room: min(max(words, 0), api.MaxWords)}
}

// Alloc makes words.
func (m *Memory) Alloc(n int) (api.Word, api.Errno) {
	switch {
	case n < 0:
		return api.Word{}, api.ErrArg
	case m == nil || n > m.room-m.words: // a sum of both could go round
		return api.Word{}, api.ErrMemory
	}
	if m.live == nil {
		m.live = map[int][]cell{}
	}
	m.made++
	m.words += n
	m.live[m.made] = make([]cell, n)
	return api.Word{Ptr: true, A: m.made}, api.OK
}

// find is the check of an address, and the allocation that it is of.
func (m *Memory) find(p api.Word) ([]cell, api.Errno) {
	switch {
	case !p.Ptr:
		return nil, api.ErrKind
	case m == nil || p.A < 1 || p.A > m.made:
		return nil, api.ErrRange
	}
	block, ok := m.live[p.A]
	if !ok {
		return nil, api.ErrFreed
	}
	return block, api.OK
}

// span is the n cells from an address on.
func (m *Memory) span(p api.Word, n int) ([]cell, api.Errno) {
	block, err := m.find(p)
	if err != api.OK {
		return nil, err
	}
	if p.N < 0 || n > len(block)-p.N { // p.N and n together could go round
		return nil, api.ErrRange
	}
	return block[p.N : p.N+n], api.OK
}

// stored is the n cells from an address on, all of which could be loaded.
// They are asked one by one: the first one that can't be tells which error it is.
func (m *Memory) stored(p api.Word, n int) ([]cell, api.Errno) {
	if n == 0 {
		return nil, api.OK // nothing is loaded, so the address doesn't matter
	}
	block, err := m.find(p)
	if err != api.OK {
		return nil, err
	}
	if p.N < 0 || p.N >= len(block) {
		return nil, api.ErrRange
	}
	block = block[p.N:]
	for i := range n {
		if i == len(block) {
			return nil, api.ErrRange
		}
		if !block[i].stored {
			return nil, api.ErrInit
		}
	}
	return block[:n], api.OK
}

// Free frees words.
func (m *Memory) Free(p api.Word) api.Errno {
	block, err := m.find(p)
	if err != api.OK {
		return err
	}
	if p.N != 0 {
		return api.ErrRange
	}
	m.words -= len(block)
	delete(m.live, p.A) // its number tells later that it was there
	return api.OK
}

// Load is a word.
func (m *Memory) Load(p api.Word) (api.Word, api.Errno) {
	cells, err := m.stored(p, 1)
	if err != api.OK {
		return api.Word{}, err
	}
	return cells[0].word, api.OK
}

// Store stores a word.
func (m *Memory) Store(p, w api.Word) api.Errno {
	cells, err := m.span(p, 1)
	if err != api.OK {
		return err
	}
	cells[0] = cell{word: w, stored: true}
	return api.OK
}

// Copy stores words that stand elsewhere.
func (m *Memory) Copy(to, from api.Word, n int) api.Errno {
	if n < 0 {
		return api.ErrArg
	}
	source, err := m.stored(from, n)
	if err != api.OK {
		return err
	}
	target, err := m.span(to, n)
	if err != api.OK {
		return err
	}
	copy(target, source)
	return api.OK
}

// Clear lets words be no more.
func (m *Memory) Clear(p api.Word, n int) api.Errno {
	if n < 0 {
		return api.ErrArg
	}
	cells, err := m.span(p, n)
	if err != api.OK {
		return err
	}
	clear(cells)
	return api.OK
}

// Set tells whether a word could be loaded.
func (m *Memory) Set(p api.Word) bool {
	_, err := m.stored(p, 1)
	return err == api.OK
}

// Live is how many allocations are not freed.
func (m *Memory) Live() int {
	if m == nil {
		return 0
	}
	return len(m.live)
}

// Words is how many words these have.
func (m *Memory) Words() int {
	if m == nil {
		return 0
	}
	return m.words
}

// Off is an address so many words on.
func Off(p api.Word, n int) (api.Word, api.Errno) {
	if !p.Ptr {
		return api.Word{}, api.ErrKind
	}
	return api.Word{Ptr: true, A: p.A, N: p.N + n}, api.OK
}
