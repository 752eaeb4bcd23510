package lease_test

import (
	"math"
	"slices"
	"testing"

	"garnet/api"
	"garnet/lease"
)

// draws is numbers that look like chance and are the same in each run.
func draws() func(k int) int {
	seed := uint64(1)
	return func(k int) int {
		seed = seed*6364136223846793005 + 1442695040888963407
		return int(seed>>33) % k
	}
}

// newLease is one without a holder.
func newLease(t *testing.T, long int) *lease.Lease {
	t.Helper()
	l, err := lease.New(long)
	if err != nil || l == nil {
		t.Fatalf("New(%d): %v, %v", long, l, err)
	}
	return l
}

// turn is what one call without an error came to: w holds it up to a tick, or,
// where it let go, nobody does.
type turn struct {
	w     int
	until int64
	gone  bool
}

// told is an epoch, and whom Take told it.
type told struct {
	w     int
	epoch uint64
}

// model is P16.1 and P16.2 once more: all turns, one behind the other, from
// which all else is told.
type model struct {
	long  int64
	turns []turn
}

// last is the turn by which somebody is the holder, if anybody is.
func (m *model) last() (turn, bool) {
	if len(m.turns) == 0 {
		return turn{}, false
	}
	l := m.turns[len(m.turns)-1]
	return l, !l.gone
}

// epoch counts the turns at which there came to be a holder who wasn't it.
func (m *model) epoch() uint64 {
	n, was := uint64(0), turn{gone: true}
	for _, t := range m.turns {
		if !t.gone && (was.gone || was.w != t.w) {
			n++
		}
		was = t
	}
	return n
}

func (m *model) heldBy(now int64) (int, bool) {
	if l, is := m.last(); is && now < l.until {
		return l.w, true
	}
	return 0, false
}

func wrong(w int, now int64) bool { return w < 0 || now < 0 || now > 1<<40 }

func (m *model) take(w int, now int64) (uint64, error) {
	if wrong(w, now) {
		return 0, api.ErrArg
	}
	if by, held := m.heldBy(now); held && by != w {
		return 0, api.ErrBusy
	}
	m.turns = append(m.turns, turn{w: w, until: now + m.long})
	return m.epoch(), nil
}

func (m *model) check(w int, epoch uint64) error {
	if w < 0 {
		return api.ErrArg
	}
	if l, is := m.last(); !is || l.w != w || m.epoch() != epoch {
		return api.ErrStale
	}
	return nil
}

func (m *model) renew(w int, epoch uint64, now int64) error {
	if wrong(w, now) {
		return api.ErrArg
	}
	if err := m.check(w, epoch); err != nil {
		return err
	}
	m.turns = append(m.turns, turn{w: w, until: now + m.long})
	return nil
}

func (m *model) release(w int, epoch uint64) error {
	if err := m.check(w, epoch); err != nil {
		return err
	}
	m.turns = append(m.turns, turn{gone: true})
	return nil
}

// both is a lease, and the model of it: each call is done on both, and held
// against it; told is all that Take ever told.
type both struct {
	t    *testing.T
	l    *lease.Lease
	m    *model
	told []told
	over map[told]bool // of what was told: what was over already
}

func pairUp(t *testing.T, long int) *both {
	t.Helper()
	b := &both{t: t, l: newLease(t, long), m: &model{long: int64(long)}, over: map[told]bool{}}
	b.agree()
	return b
}

// someTicks is ticks that Holder is asked, those around the one up to which it
// is held among them.
func (b *both) someTicks() []int64 {
	l := []int64{math.MinInt64, -1, 0, 1, 2, 3, 7, 1 << 40, 1<<40 + 999, 1<<40 + 1000, math.MaxInt64}
	if h, is := b.m.last(); is {
		l = append(l, h.until-2, h.until-1, h.until, h.until+1, h.until-1-1<<32, h.until+1<<32)
	}
	return l
}

// someWorkers is workers whose epochs Check is asked; far ones, too, that
// differ from others by their upper half alone.
func someWorkers() []int { return []int{-1, 0, 1, 2, 15, 1 << 32, math.MaxInt} }

func (b *both) someEpochs() []uint64 {
	e := b.m.epoch()
	return []uint64{0, e - 1, e, e + 1, e + 1<<32, math.MaxUint64}
}

// agree holds all that may be seen of a lease without a call that turns it.
func (b *both) agree() {
	b.t.Helper()
	for _, now := range b.someTicks() {
		w, is := b.l.Holder(now)
		if by, held := b.m.heldBy(now); w != by || is != held {
			b.t.Fatalf("long %d: Holder(%d): %d, %v, not %d, %v", b.m.long, now, w, is, by, held)
		}
	}
	if e := b.l.Epoch(); e != b.m.epoch() {
		b.t.Fatalf("long %d: Epoch: %d, not %d", b.m.long, e, b.m.epoch())
	}
	for _, w := range someWorkers() {
		for _, e := range b.someEpochs() {
			if err, want := b.l.Check(w, e), b.m.check(w, e); err != want {
				b.t.Fatalf("long %d: Check(%d, %d): %v, not %v", b.m.long, w, e, err, want)
			}
		}
	}
	b.follows()
}

// follows is P16.3, asked of all that were told an epoch.
func (b *both) follows() {
	b.t.Helper()
	pass := 0
	for _, x := range b.told {
		err := b.l.Check(x.w, x.epoch)
		if err == nil {
			pass++
		}
		if err == nil && b.over[x] {
			b.t.Fatalf("long %d: %d passes again with %d", b.m.long, x.w, x.epoch)
		}
		if err != nil {
			b.over[x] = true
		}
	}
	if _, is := b.m.last(); is != (pass == 1) || pass > 1 {
		b.t.Fatalf("long %d: %d of %v pass; that there is a holder is %v", b.m.long, pass, b.told, is)
	}
}

// Errors are held by ==, for each is to be the Code itself, not a wrapping.

func (b *both) take(w int, now int64) (uint64, error) {
	b.t.Helper()
	was := b.l.Epoch()
	e, err := b.l.Take(w, now)
	want, fault := b.m.take(w, now)
	if e != want || err != fault {
		b.t.Fatalf("long %d: Take(%d, %d): %d, %v, not %d, %v", b.m.long, w, now, e, err, want, fault)
	}
	if err == nil && e < was {
		b.t.Fatalf("long %d: Take(%d, %d): the epoch went back from %d to %d", b.m.long, w, now, was, e)
	}
	if x := (told{w, e}); err == nil && !slices.Contains(b.told, x) {
		b.told = append(b.told, x)
	}
	b.agree()
	return e, fault
}

func (b *both) renew(w int, epoch uint64, now int64) error {
	b.t.Helper()
	err, want := b.l.Renew(w, epoch, now), b.m.renew(w, epoch, now)
	if err != want {
		b.t.Fatalf("long %d: Renew(%d, %d, %d): %v, not %v", b.m.long, w, epoch, now, err, want)
	}
	b.agree()
	return want
}

func (b *both) release(w int, epoch uint64) error {
	b.t.Helper()
	err, want := b.l.Release(w, epoch), b.m.release(w, epoch)
	if err != want {
		b.t.Fatalf("long %d: Release(%d, %d): %v, not %v", b.m.long, w, epoch, err, want)
	}
	b.agree()
	return want
}

// call is one that turns a lease, or may: its epoch is told from the one that
// the lease has then, for that goes on.
type call struct {
	kind  byte // t takes, r renews, f frees
	w     int
	now   int64
	epoch int
}

func (b *both) do(c call) {
	b.t.Helper()
	epoch := b.m.epoch() + uint64(c.epoch)
	switch c.kind {
	case 't':
		b.take(c.w, c.now)
	case 'r':
		b.renew(c.w, epoch, c.now)
	case 'f':
		b.release(c.w, epoch)
	}
}

// calls is all of some workers, ticks, and epochs told from the lease's own.
func calls(workers []int, ticks []int64, epochs []int) []call {
	var l []call
	for _, w := range workers {
		for _, now := range ticks {
			l = append(l, call{kind: 't', w: w, now: now})
			for _, e := range epochs {
				l = append(l, call{kind: 'r', w: w, now: now, epoch: e})
			}
		}
		for _, e := range epochs {
			l = append(l, call{kind: 'f', w: w, epoch: e})
		}
	}
	return l
}

// allOf goes through each sequence of just so many calls.
func allOf(t *testing.T, long, many int, l []call) {
	t.Helper()
	places := make([]int, many)
	for {
		b := pairUp(t, long)
		for _, i := range places {
			b.do(l[i])
		}
		i := 0
		for ; i < many && places[i] == len(l)-1; i++ {
			places[i] = 0
		}
		if i == many {
			return
		}
		places[i]++
	}
}

func TestAllShortSequences(t *testing.T) { // P16.1, P16.2, P16.3
	few := calls([]int{0, 1}, []int64{0, 1, 2}, []int{0})
	more := calls([]int{0, 1, 2}, []int64{0, 1, 2, 6}, []int{-1, 0, 1})
	for _, long := range []int{1, 2, 5, 1000} {
		allOf(t, long, 4, few)
		allOf(t, long, 2, more)
	}
}

func TestManySequences(t *testing.T) { // P16.1, P16.2, P16.3
	draw := draws()
	for _, long := range []int{1, 2, 5, 1000} {
		for range 400 {
			b := pairUp(t, long)
			now := int64(draw(5))
			for range 60 {
				now = max(now+int64(draw(6)-2), -1)
				b.do(call{"tttrrf"[draw(6)], draw(4), now, []int{0, 0, 0, -1, 1}[draw(5)]})
			}
		}
	}
}

func TestManySequencesWithFarOnes(t *testing.T) { // P16.1, P16.2, P16.3, P1
	draw := draws()
	ticks := []int64{math.MinInt64, -1, 0, 1, 999, 1000, 1 << 32, 1<<32 + 1, 1<<40 - 1000, 1<<40 - 1, 1 << 40, 1<<40 + 1, math.MaxInt64}
	workers := []int{math.MinInt, -1, 0, 0, 0, 1, 15, 1 << 32, math.MaxInt}
	epochs := []int{0, 0, 0, 0, -1, 1, 1 << 32, math.MaxInt, math.MinInt}
	for _, long := range []int{1, 2, 5, 1000} {
		for range 400 {
			b := pairUp(t, long)
			for range 60 {
				b.do(call{"tttrrf"[draw(6)], workers[draw(len(workers))], ticks[draw(len(ticks))], epochs[draw(len(epochs))]})
			}
		}
	}
}

func TestLeasesAreApart(t *testing.T) { // P16.1, P16.2: each goes by its own calls alone
	draw := draws()
	for range 200 {
		l := []*both{pairUp(t, 1), pairUp(t, 5), pairUp(t, 5), pairUp(t, 1000)}
		for range 80 {
			b := l[draw(len(l))]
			b.do(call{"tttrrf"[draw(6)], draw(3), int64(draw(12)), 0})
			for _, b := range l {
				b.agree()
			}
		}
	}
}
