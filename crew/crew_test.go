package crew_test

import (
	"math"
	"testing"

	"garnet/api"
	"garnet/crew"
)

// What State tells.
const (
	live    = 0
	stalled = 1
	dead    = 2
	missing = -1
)

func workers(t *testing.T, n int) *crew.Crew {
	t.Helper()
	c, err := crew.New(n)
	if err != nil || c == nil {
		t.Fatalf("New(%d): %v, %v", n, c, err)
	}
	return c
}

// call is one of the calls of a worker, by its name.
type call struct {
	name string
	do   func(*crew.Crew, int) error
}

var (
	stall = call{"Stall", (*crew.Crew).Stall}
	wake  = call{"Wake", (*crew.Crew).Wake}
	kill  = call{"Kill", (*crew.Crew).Kill}
	may   = call{"May", (*crew.Crew).May}
)

// does holds a call's error, by ==, for it is to be the Code itself.
func does(t *testing.T, c *crew.Crew, k call, w int, want error) {
	t.Helper()
	if err := k.do(c, w); err != want {
		t.Errorf("%s(%d): %v, not %v", k.name, w, err, want)
	}
}

// are holds all states, and that there are no more.
func are(t *testing.T, c *crew.Crew, states ...int) {
	t.Helper()
	if n := c.Len(); n != len(states) {
		t.Errorf("Len: %d, not %d", n, len(states))
	}
	for w, want := range states {
		if got := c.State(w); got != want {
			t.Errorf("State(%d): %d, not %d", w, got, want)
		}
	}
	for _, w := range []int{-1, len(states)} {
		if got := c.State(w); got != missing {
			t.Errorf("State(%d): %d", w, got)
		}
	}
}

func tick(t *testing.T, c *crew.Crew, n int64, want error, now int64) {
	t.Helper()
	if err := c.Tick(n); err != want {
		t.Errorf("Tick(%d): %v, not %v", n, err, want)
	}
	if got := c.Now(); got != now {
		t.Errorf("Now after Tick(%d): %d, not %d", n, got, now)
	}
}

func TestNewWrong(t *testing.T) { // P2.1, R3
	for _, n := range []int{math.MinInt, -16, -1, 0, 17, 18, 1000, math.MaxInt} {
		if c, err := crew.New(n); c != nil || err != api.ErrArg {
			t.Errorf("New(%d): %v, %v", n, c, err)
		}
	}
}

func TestNew(t *testing.T) { // P2.1
	for n := 1; n <= 16; n++ {
		c := workers(t, n)
		are(t, c, make([]int, n)...)
		for w := range n {
			does(t, c, may, w, nil)
		}
		if now := c.Now(); now != 0 {
			t.Errorf("Now: %d", now)
		}
	}
}

func TestCrewsAreApart(t *testing.T) { // P2.1, P2.2
	a, b := workers(t, 2), workers(t, 2)
	does(t, a, kill, 0, nil)
	tick(t, a, 5, nil, 5)
	are(t, a, dead, live)
	are(t, b, live, live)
	tick(t, b, 0, nil, 0)
}

func TestNoSuchWorker(t *testing.T) { // P2.1, P1
	for _, n := range []int{1, 3, 16} {
		c := workers(t, n)
		for _, w := range []int{math.MinInt, -n, -2, -1, n, n + 1, 17, math.MaxInt} {
			for _, k := range []call{stall, wake, kill, may} {
				does(t, c, k, w, api.ErrRange)
			}
			if got := c.State(w); got != missing {
				t.Errorf("State(%d): %d", w, got)
			}
		}
		are(t, c, make([]int, n)...) // a wrong call turned nobody
	}
}

// reach brings worker 1 of three to a state.
func reach(t *testing.T, state int) *crew.Crew {
	t.Helper()
	c := workers(t, 3)
	switch state {
	case stalled:
		does(t, c, stall, 1, nil)
	case dead:
		does(t, c, kill, 1, nil)
	}
	are(t, c, live, state, live)
	return c
}

func TestEachCallInEachState(t *testing.T) { // P2.1, P2.3
	for _, x := range []struct {
		from int
		k    call
		want error
		to   int
	}{
		{live, stall, nil, stalled},
		{live, wake, nil, live},
		{live, kill, nil, dead},
		{live, may, nil, live},
		{stalled, stall, nil, stalled},
		{stalled, wake, nil, live},
		{stalled, kill, nil, dead},
		{stalled, may, api.ErrBusy, stalled},
		{dead, stall, api.ErrGone, dead},
		{dead, wake, api.ErrGone, dead},
		{dead, kill, api.ErrGone, dead},
		{dead, may, api.ErrGone, dead},
	} {
		c := reach(t, x.from)
		does(t, c, x.k, 1, x.want)
		are(t, c, live, x.to, live)
	}
}

func TestStalledAndWokenAgain(t *testing.T) { // P2.1
	c := workers(t, 2)
	for range 3 {
		does(t, c, stall, 1, nil)
		does(t, c, may, 1, api.ErrBusy)
		does(t, c, may, 0, nil)
		are(t, c, live, stalled)
		does(t, c, wake, 1, nil)
		does(t, c, may, 1, nil)
		are(t, c, live, live)
	}
}

func TestDeadStaysSo(t *testing.T) { // P2.3
	c := workers(t, 2)
	does(t, c, stall, 0, nil)
	does(t, c, kill, 0, nil)
	for range 3 {
		for _, k := range []call{wake, stall, kill, may} {
			does(t, c, k, 0, api.ErrGone)
			are(t, c, dead, live)
		}
		tick(t, c, 0, nil, c.Now())
	}
	does(t, c, kill, 1, nil)
	are(t, c, dead, dead) // they count, though none is left
	tick(t, c, 4, nil, 4) // the clock needs nobody
}

func TestTick(t *testing.T) { // P2.2
	c := workers(t, 1)
	tick(t, c, 0, nil, 0)
	tick(t, c, 1, nil, 1)
	tick(t, c, 0, nil, 1)
	tick(t, c, 41, nil, 42)
	tick(t, c, 1<<33, nil, 1<<33+42)
	are(t, c, live)
}

func TestTickToTheEnd(t *testing.T) { // P2.2
	const end = int64(1) << 40
	for _, at := range []int64{0, 1, 1000, end - 1, end} {
		c := workers(t, 1)
		tick(t, c, at, nil, at)
		tick(t, c, end-at+1, api.ErrArg, at) // one past it
		tick(t, c, end-at, nil, end)         // just there
		tick(t, c, 1, api.ErrArg, end)
		tick(t, c, 0, nil, end)
	}
}

func TestTickWrong(t *testing.T) { // P2.2, P2.3, P1
	const end = int64(1) << 40
	for _, at := range []int64{0, 7, end} {
		c := workers(t, 1)
		tick(t, c, at, nil, at)
		for _, n := range []int64{math.MinInt64, math.MinInt64 + 1, -end - 1, -end, -at - 1, -7, -1} {
			tick(t, c, n, api.ErrArg, at)
		}
		// The sum wraps round to below 0, or just doesn't, or is far from it.
		for _, n := range []int64{math.MaxInt64, math.MaxInt64 - at, math.MaxInt64 - end, 1 << 62, end + 1} {
			tick(t, c, n, api.ErrArg, at)
		}
	}
}

// model is the chapter's words once more: a state each, and a clock.
type model struct {
	states []int
	clock  int64
}

func (m *model) worker(k string, w int) error {
	if w < 0 || w >= len(m.states) {
		return api.ErrRange
	}
	if m.states[w] == dead {
		return api.ErrGone
	}
	switch k {
	case "Stall":
		m.states[w] = stalled
	case "Wake":
		m.states[w] = live
	case "Kill":
		m.states[w] = dead
	case "May":
		if m.states[w] == stalled {
			return api.ErrBusy
		}
	}
	return nil
}

func TestAgainstModel(t *testing.T) { // P2.1, P2.2, P2.3
	seed := uint64(1)
	draw := func(k int) int {
		seed = seed*6364136223846793005 + 1442695040888963407
		return int(seed>>33) % k
	}
	calls := []call{stall, wake, may, stall, wake, may, kill}
	for range 300 {
		n := 1 + draw(16)
		c, m := workers(t, n), model{states: make([]int, n)}
		for range 100 {
			w, k := draw(n+2)-1, calls[draw(len(calls))]
			does(t, c, k, w, m.worker(k.name, w))
			are(t, c, m.states...)
			by := int64(draw(1<<12)-100) << draw(32)
			if by < 0 || m.clock+by > 1<<40 {
				tick(t, c, by, api.ErrArg, m.clock)
			} else {
				m.clock += by
				tick(t, c, by, nil, m.clock)
			}
		}
		if t.Failed() {
			return
		}
	}
}
