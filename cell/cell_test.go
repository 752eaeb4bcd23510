package cell_test

import (
	"math"
	"strconv"
	"testing"

	"garnet/api"
	"garnet/cell"
)

const top = math.MaxUint64

func cells(t *testing.T, n int) *cell.Cells {
	t.Helper()
	c, err := cell.New(n)
	if err != nil || c == nil {
		t.Fatalf("New(%d): %v, %v", n, c, err)
	}
	return c
}

// is holds one cell's value and stamp against what they should be.
func is(t *testing.T, c *cell.Cells, i int, value uint64, stamp int) {
	t.Helper()
	if v, err := c.Load(i); v != value || err != nil {
		t.Errorf("Load(%d): %d, %v; not %d", i, v, err, value)
	}
	if s := c.Stamp(i); s != stamp {
		t.Errorf("Stamp(%d): %d, not %d", i, s, stamp)
	}
}

func store(t *testing.T, c *cell.Cells, i int, v uint64) {
	t.Helper()
	if err := c.Store(i, v); err != nil {
		t.Errorf("Store(%d, %d): %v", i, v, err)
	}
}

func swap(t *testing.T, c *cell.Cells, i int, old, v uint64, want bool) {
	t.Helper()
	if got, err := c.Swap(i, old, v); got != want || err != nil {
		t.Errorf("Swap(%d, %d, %d): %v, %v; not %v", i, old, v, got, err, want)
	}
}

func add(t *testing.T, c *cell.Cells, i int, d, want uint64) {
	t.Helper()
	if got, err := c.Add(i, d); got != want || err != nil {
		t.Errorf("Add(%d, %d): %d, %v; not %d", i, d, got, err, want)
	}
}

// Errors are held by ==, for each is to be the Code itself, not a wrapping.

func TestNewWrong(t *testing.T) { // P1.1
	for _, n := range []int{math.MinInt, -1000, -1, 0, 1001, 1002, 1 << 16, math.MaxInt} {
		if c, err := cell.New(n); c != nil || err != api.ErrArg {
			t.Errorf("New(%d): %v, %v", n, c, err)
		}
	}
}

func TestNewMakesSoMany(t *testing.T) { // P1.1
	for _, n := range []int{1, 2, 7, 999, 1000} {
		t.Run(strconv.Itoa(n), func(t *testing.T) {
			c := cells(t, n)
			for i := range n {
				is(t, c, i, 0, 0)
			}
			if v, err := c.Load(n); v != 0 || err != api.ErrRange {
				t.Errorf("Load(%d): %d, %v", n, v, err)
			}
		})
	}
}

func TestNewAreApart(t *testing.T) { // P1.1
	a, b := cells(t, 1), cells(t, 1)
	store(t, a, 0, 3)
	is(t, a, 0, 3, 1)
	is(t, b, 0, 0, 0)
}

func TestStore(t *testing.T) { // P1.1
	c := cells(t, 3)
	store(t, c, 1, 7)
	is(t, c, 1, 7, 1)
	store(t, c, 1, top)
	is(t, c, 1, top, 2)
	store(t, c, 1, top) // the same value, and yet written
	is(t, c, 1, top, 3)
	store(t, c, 2, 0)
	is(t, c, 2, 0, 1)
	is(t, c, 0, 0, 0)
}

func TestSwap(t *testing.T) { // P1.1
	c := cells(t, 2)
	swap(t, c, 0, 0, 5, true)
	is(t, c, 0, 5, 1)
	swap(t, c, 0, 0, 6, false)
	is(t, c, 0, 5, 1)
	swap(t, c, 0, 6, 5, false) // the new value is there, the old one isn't
	is(t, c, 0, 5, 1)
	swap(t, c, 0, 5, 5, true) // the same value, and yet written
	is(t, c, 0, 5, 2)
	swap(t, c, 0, 6, 6, false)
	is(t, c, 0, 5, 2)
	swap(t, c, 0, 5, top, true)
	is(t, c, 0, top, 3)
	is(t, c, 1, 0, 0)
}

func TestAdd(t *testing.T) { // P1.1
	c := cells(t, 2)
	add(t, c, 1, 9, 0)
	is(t, c, 1, 9, 1)
	add(t, c, 1, 0, 9) // nothing is added, and yet written
	is(t, c, 1, 9, 2)
	add(t, c, 1, 1<<63, 9)
	is(t, c, 1, 1<<63+9, 3)
	add(t, c, 1, 1<<63, 1<<63+9) // past 2^64 - 1
	is(t, c, 1, 9, 4)
	add(t, c, 1, top, 9) // one less
	is(t, c, 1, 8, 5)
	add(t, c, 1, top-8, 8) // up to 2^64 - 1, not past it
	is(t, c, 1, top, 6)
	add(t, c, 1, 1, top)
	is(t, c, 1, 0, 7)
	is(t, c, 0, 0, 0)
}

func TestNoSuchCell(t *testing.T) { // P1.1, P1, R3
	for _, n := range []int{1, 3, 1000} {
		c := cells(t, n)
		store(t, c, 0, 4)
		if n > 1 {
			store(t, c, n-1, 4)
		}
		for _, i := range []int{math.MinInt, -n, -2, -1, n, n + 1, 1001, math.MaxInt} {
			if v, err := c.Load(i); v != 0 || err != api.ErrRange {
				t.Errorf("Load(%d): %d, %v", i, v, err)
			}
			if err := c.Store(i, 1); err != api.ErrRange {
				t.Errorf("Store(%d): %v", i, err)
			}
			for _, old := range []uint64{0, 4, top} {
				if did, err := c.Swap(i, old, 1); did || err != api.ErrRange {
					t.Errorf("Swap(%d): %v, %v", i, did, err)
				}
			}
			if v, err := c.Add(i, 1); v != 0 || err != api.ErrRange {
				t.Errorf("Add(%d): %d, %v", i, v, err)
			}
			if s := c.Stamp(i); s != 0 {
				t.Errorf("Stamp(%d): %d", i, s)
			}
		}
		for i := range n { // a wrong call wrote nowhere
			if i == 0 || i == n-1 {
				is(t, c, i, 4, 1)
			} else {
				is(t, c, i, 0, 0)
			}
		}
	}
}

func TestLooksDoNotWrite(t *testing.T) { // P1.2
	c := cells(t, 2)
	store(t, c, 0, 3)
	for range 5 {
		is(t, c, 0, 3, 1)
		swap(t, c, 0, 2, 9, false)
		store(t, c, 1, 8) // another cell
	}
	is(t, c, 0, 3, 1)
	is(t, c, 1, 8, 5)
}

func TestStampTellsWhatCameBack(t *testing.T) { // P1.2
	c := cells(t, 1)
	store(t, c, 0, 3)
	store(t, c, 0, 4)
	store(t, c, 0, 3)
	is(t, c, 0, 3, 3)
}

func TestOneSwapGoesWell(t *testing.T) { // P1.2
	c := cells(t, 1)
	for round := 1; round <= 3; round++ {
		well := 0
		for v := uint64(1); v <= 20; v++ {
			did, err := c.Swap(0, 0, v)
			if err != nil {
				t.Fatal(err)
			}
			if did {
				well++
				is(t, c, 0, v, 2*round-1)
			}
		}
		if well != 1 {
			t.Errorf("round %d: %d calls of Swap went well", round, well)
		}
		is(t, c, 0, 1, 2*round-1)
		swap(t, c, 0, 1, 0, true) // the old one is back
	}
}

// model is the chapter's words once more, as lists.
type model struct {
	value []uint64
	stamp []int
}

func (m *model) write(i int, v uint64) {
	m.value[i] = v
	m.stamp[i]++
}

func TestAgainstModel(t *testing.T) { // P1.1, P1.2
	const n = 4
	c := cells(t, n)
	m := model{make([]uint64, n), make([]int, n)}
	values := []uint64{0, 1, 2, 1 << 63, top - 1, top}
	seed := uint64(1)
	draw := func(k int) int {
		seed = seed*6364136223846793005 + 1442695040888963407
		return int(seed>>33) % k
	}
	for range 20000 {
		i, v, old := draw(n), values[draw(len(values))], values[draw(len(values))]
		switch draw(3) {
		case 0:
			store(t, c, i, v)
			m.write(i, v)
		case 1:
			swap(t, c, i, old, v, m.value[i] == old)
			if m.value[i] == old {
				m.write(i, v)
			}
		case 2:
			add(t, c, i, v, m.value[i])
			m.write(i, m.value[i]+v)
		}
		for j := range n {
			is(t, c, j, m.value[j], m.stamp[j])
		}
		if t.Failed() {
			return
		}
	}
}
