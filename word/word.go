// Package word is layer 1, shared words: see shared/doc/01-word.md.
package word

import "padstone/api"

// Store has cells.
type Store struct {
	cells []api.Cell
	limit uint32
}

// New makes one: P1.1.
func New(cells int, limit uint32) (*Store, error) {
	if cells < 1 || cells > api.MaxCells || limit == 0 {
		return nil, api.ErrArg
	}
	return &Store{cells: make([]api.Cell, cells), limit: limit}, nil
}

// Read is a cell: P1.1.
func (s *Store) Read(i int) (api.Cell, error) {
	if !s.has(i) {
		return api.Cell{}, api.ErrNone
	}
	return s.cells[i], nil
}

// Reserve reserves one: P1.2.
func (s *Store) Reserve(i int, version uint32, mark int) error {
	if !s.has(i) {
		return api.ErrNone
	}
	if mark < 1 {
		return api.ErrArg
	}
	if s.cells[i].Mark != 0 && s.cells[i].Mark != mark {
		return api.ErrMarked
	}
	if s.cells[i].Version != version {
		return api.ErrState
	}
	s.cells[i].Mark = mark
	return nil
}

// Release releases one: P1.2.
func (s *Store) Release(i, mark int) error {
	if err := s.held(i, mark); err != nil {
		return err
	}
	s.cells[i].Mark = 0
	return nil
}

// Put puts a value: P1.2.
func (s *Store) Put(i, mark int, value uint64) error {
	if err := s.held(i, mark); err != nil {
		return err
	}
	// A version that began anew would let a reservation take an old value for
	// the one that was read: at the limit the cell keeps all, its mark too.
	if s.cells[i].Version == s.limit {
		return api.ErrVersion
	}
	s.cells[i] = api.Cell{Value: value, Version: s.cells[i].Version + 1}
	return nil
}

// Set sets one: P1.1.
func (s *Store) Set(i int, value uint64) error {
	if !s.has(i) {
		return api.ErrNone
	}
	if s.cells[i].Mark != 0 {
		return api.ErrMarked
	}
	s.cells[i].Value = value
	return nil
}

// Len is how many there are: P1.1.
func (s *Store) Len() int { return len(s.cells) }

// Limit is the limit of versions: P1.1.
func (s *Store) Limit() uint32 { return s.limit }

// Values are all: P1.1.
func (s *Store) Values() []uint64 {
	l := make([]uint64, len(s.cells))
	for i, c := range s.cells {
		l[i] = c.Value
	}
	return l
}

// has tells whether there is a cell i.
func (s *Store) has(i int) bool { return i >= 0 && i < len(s.cells) }

// held is nil, if there is a cell i that bears that mark; else the error.
func (s *Store) held(i, mark int) error {
	if !s.has(i) {
		return api.ErrNone
	}
	// A mark of 0 would be that of a cell that nobody reserved.
	if mark < 1 || s.cells[i].Mark != mark {
		return api.ErrMarked
	}
	return nil
}
