// Package cell is layer 1: see shared/doc/01-cell.md.
package cell

import "garnet/api"

// Cells are shared. They are plain data, without a lock: workers take turns,
// one micro-step each, so no two calls ever run at once.
type Cells struct {
	list []written
}

// written is one cell. The stamp stands beside the value because a value may
// come back, and the stamp alone tells then that it was away.
type written struct {
	value uint64
	stamp int
}

// New makes some: P1.1.
func New(n int) (*Cells, error) {
	if n < 1 || n > api.MaxCells {
		return nil, api.ErrArg
	}
	return &Cells{list: make([]written, n)}, nil
}

// Load is a cell's value: P1.1.
func (c *Cells) Load(i int) (uint64, error) {
	if !c.has(i) {
		return 0, api.ErrRange
	}
	return c.list[i].value, nil
}

// Store writes one: P1.1.
func (c *Cells) Store(i int, v uint64) error {
	if !c.has(i) {
		return api.ErrRange
	}
	c.write(i, v)
	return nil
}

// Swap writes one, if it has a value: P1.1. A new value that is the old one
// counts as written too.
func (c *Cells) Swap(i int, old, v uint64) (bool, error) {
	if !c.has(i) {
		return false, api.ErrRange
	}
	if c.list[i].value != old {
		return false, nil
	}
	c.write(i, v)
	return true, nil
}

// Add adds to one, and tells what it was: P1.1. The sum wraps round.
func (c *Cells) Add(i int, d uint64) (uint64, error) {
	if !c.has(i) {
		return 0, api.ErrRange
	}
	was := c.list[i].value
	c.write(i, was+d)
	return was, nil
}

// Stamp is how often one was written: P1.1.
func (c *Cells) Stamp(i int) int {
	if !c.has(i) {
		return 0
	}
	return c.list[i].stamp
}

func (c *Cells) has(i int) bool { return i >= 0 && i < len(c.list) }

// write is the only way to a value, so that no writing goes without its stamp.
func (c *Cells) write(i int, v uint64) {
	c.list[i].value = v
	c.list[i].stamp++
}
