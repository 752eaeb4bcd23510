package lease_test

import (
	"math"
	"strconv"
	"testing"

	"garnet/api"
	"garnet/lease"
)

func TestNumbers(t *testing.T) { // DOC.md, Words
	if api.MaxLong != 1000 || api.MaxTime != 1<<40 || int(api.ErrArg) != 1 || int(api.ErrBusy) != 7 || int(api.ErrStale) != 8 {
		t.Error("there are other limits, or errors")
	}
}

func TestExample(t *testing.T) { // P16.2, the chapter's table
	l := newLease(t, 5)
	if e, err := l.Take(0, 0); e != 1 || err != nil {
		t.Errorf("Take(0, 0): %d, %v", e, err)
	}
	if e, err := l.Take(1, 0); e != 0 || err != api.ErrBusy {
		t.Errorf("Take(0, 0), Take(1, 0): %d, %v", e, err)
	}
}

func TestNewWrong(t *testing.T) { // P16.1, R3
	for _, long := range []int{math.MinInt, math.MinInt + 1, -1 << 32, -1<<32 + 1, -1000, -2, -1, 0,
		1001, 1002, 1023, 1024, 2000, 1 << 16, 1<<16 + 1, 1 << 32, 1<<32 + 1, 1<<32 + 1000, math.MaxInt - 1, math.MaxInt} {
		if l, err := lease.New(long); l != nil || err != api.ErrArg {
			t.Errorf("New(%d): %v, %v", long, l, err)
		}
	}
}

func TestNewOfEachLength(t *testing.T) { // P16.1: it is held for just so many ticks
	for long := 1; long <= 1000; long++ {
		l := newLease(t, long)
		for _, now := range []int64{0, 3, 1 << 40} {
			if _, err := l.Take(7, now); err != nil {
				t.Fatalf("long %d: %v", long, err)
			}
			if w, is := l.Holder(now + int64(long) - 1); w != 7 || !is {
				t.Errorf("long %d: taken at %d: %d, %v in its last tick", long, now, w, is)
			}
			if w, is := l.Holder(now + int64(long)); w != 0 || is {
				t.Errorf("long %d: taken at %d: %d, %v behind its last tick", long, now, w, is)
			}
		}
	}
}

// farTicks is ticks that are no clock's, too: Holder takes any.
func farTicks() []int64 {
	return []int64{math.MinInt64, math.MinInt64 + 1, -1 << 40, -1001, -2, -1, 0, 1, 2, 999, 1000, 1001,
		1<<40 - 1, 1 << 40, 1<<40 + 1, math.MaxInt64 - 1, math.MaxInt64}
}

func TestNewIsAsNewAtFirst(t *testing.T) { // P16.1, P16.2
	for _, long := range lengths() {
		l := newLease(t, long)
		for _, now := range farTicks() {
			if w, is := l.Holder(now); w != 0 || is {
				t.Errorf("long %d: Holder(%d): %d, %v", long, now, w, is)
			}
		}
		if e := l.Epoch(); e != 0 {
			t.Errorf("long %d: Epoch: %d", long, e)
		}
		for _, w := range []int{0, 1, 2, 15, math.MaxInt} {
			for _, e := range []uint64{0, 1, 2, math.MaxUint64} {
				checks(t, l, w, e, api.ErrStale)
			}
		}
	}
}

func checks(t *testing.T, l *lease.Lease, w int, epoch uint64, want error) {
	t.Helper()
	if err := l.Check(w, epoch); err != want {
		t.Errorf("Check(%d, %d): %v, not %v", w, epoch, err, want)
	}
}

func lengths() []int { return []int{1, 2, 5, 999, 1000} }

// base is the tick around which the states below go.
const base = 100_000

// state is a way to a lease, by calls.
type state struct {
	name  string
	calls []call
}

// states is a lease's: new, held by 0 or by 1, for the first time or later on,
// and without a holder again.
func states() []state {
	take := func(w int, now int64) call { return call{kind: 't', w: w, now: now} }
	renew := func(w int, now int64) call { return call{kind: 'r', w: w, now: now} }
	free := func(w int) call { return call{kind: 'f', w: w} }
	return []state{
		{"new", nil},
		{"taken", []call{take(0, base)}},
		{"taken by 1", []call{take(1, base)}},
		{"taken by a far one", []call{take(math.MaxInt, base)}},
		{"taken at 0", []call{take(0, 0)}},
		{"taken at the end", []call{take(0, 1<<40)}},
		{"taken twice", []call{take(0, base-1), take(0, base)}},
		{"taken earlier", []call{take(0, base+1), take(0, base)}},
		{"renewed", []call{take(0, base-1), renew(0, base)}},
		{"renewed earlier", []call{take(0, base+1), renew(0, base)}},
		{"renewed late", []call{take(0, 0), renew(0, base)}},
		{"taken late", []call{take(0, 0), take(0, base)}},
		{"taken over", []call{take(0, 0), take(1, base)}},
		{"taken over and back", []call{take(0, 0), take(1, 2000), take(0, base)}},
		{"by three", []call{take(0, 0), take(1, 2000), take(15, base)}},
		{"released", []call{take(0, base), free(0)}},
		{"released by 1", []call{take(0, 0), take(1, base), free(1)}},
		{"released late", []call{take(0, 0), free(0)}},
		{"taken anew", []call{take(0, base), free(0), take(0, base)}},
		{"taken by another one", []call{take(0, base), free(0), take(1, base)}},
		{"released twice", []call{take(0, base), free(0), take(0, base), free(0)}},
	}
}

// eachState goes through them, each made anew, for each of some lengths; f is
// given a way to one more of the same.
func eachState(t *testing.T, f func(t *testing.T, one func() *both)) {
	for _, s := range states() {
		for _, long := range lengths() {
			t.Run(s.name+", long "+strconv.Itoa(long), func(t *testing.T) {
				f(t, func() *both {
					b := pairUp(t, long)
					for _, c := range s.calls {
						b.do(c)
					}
					return b
				})
			})
		}
	}
}

// around is ticks that may be: those around the one up to which it is held,
// the first one, the last one, and some.
func (b *both) around() []int64 {
	l := []int64{0, 1, base - 1, base, base + 1, base + 1000, 1<<40 - 1, 1 << 40}
	h, is := b.m.last()
	for d := int64(-2); is && d <= 2; d++ {
		if now := h.until + d; now >= 0 && now <= 1<<40 {
			l = append(l, now)
		}
	}
	return l
}

func TestTakeInEachState(t *testing.T) { // P16.2: and then goes on as the model
	eachState(t, func(t *testing.T, one func() *both) {
		for _, now := range one().around() {
			for _, w := range []int{0, 1, 2, 15, 1 << 32, math.MaxInt} {
				b := one()
				b.take(w, now)
				b.take(0, now)
				b.take(1, now+b.m.long)
			}
		}
	})
}

func TestRenewInEachState(t *testing.T) { // P16.2
	eachState(t, func(t *testing.T, one func() *both) {
		for _, now := range one().around() {
			for _, w := range []int{0, 1, 2, 15, 1 << 32, math.MaxInt} {
				for _, e := range one().someEpochs() {
					b := one()
					b.renew(w, e, now)
					b.take(1, now)
				}
			}
		}
	})
}

func TestReleaseInEachState(t *testing.T) { // P16.2: twice, too, and whoever takes it then is told one more
	eachState(t, func(t *testing.T, one func() *both) {
		for _, w := range []int{0, 1, 2, 15, 1 << 32, math.MaxInt} {
			for _, e := range one().someEpochs() {
				for _, next := range []int{0, 1, 2} {
					b := one()
					b.release(w, e)
					b.release(w, e)
					b.take(next, base)
				}
			}
		}
	})
}

func TestWrongWorker(t *testing.T) { // P16.2: ErrArg, ahead of all else, and nothing has turned
	eachState(t, func(t *testing.T, one func() *both) {
		b := one()
		for _, w := range []int{-1, -2, -15, -1 << 32, math.MinInt + 1, math.MinInt} {
			for _, now := range append(farTicks(), b.around()...) {
				if e, err := b.take(w, now); e != 0 || err != api.ErrArg {
					t.Fatalf("Take(%d, %d): %d, %v", w, now, e, err)
				}
			}
			for _, e := range b.someEpochs() {
				for _, now := range farTicks() {
					if err := b.renew(w, e, now); err != api.ErrArg {
						t.Fatalf("Renew(%d, %d, %d): %v", w, e, now, err)
					}
				}
				if err := b.release(w, e); err != api.ErrArg {
					t.Fatalf("Release(%d, %d): %v", w, e, err)
				}
				checks(t, b.l, w, e, api.ErrArg)
			}
		}
	})
}

func TestWrongTick(t *testing.T) { // P16.2: ErrArg, ahead of ErrBusy and of ErrStale, and nothing has turned
	eachState(t, func(t *testing.T, one func() *both) {
		b := one()
		for _, now := range []int64{math.MinInt64, math.MinInt64 + 1, -1 << 40, -1000, -2, -1,
			1<<40 + 1, 1<<40 + 2, 1<<40 + 1000, 1 << 41, math.MaxInt64 - 1000, math.MaxInt64 - 1, math.MaxInt64} {
			for _, w := range []int{0, 1, 2, math.MaxInt} {
				if e, err := b.take(w, now); e != 0 || err != api.ErrArg {
					t.Fatalf("Take(%d, %d): %d, %v", w, now, e, err)
				}
				for _, e := range b.someEpochs() {
					if err := b.renew(w, e, now); err != api.ErrArg {
						t.Fatalf("Renew(%d, %d, %d): %v", w, e, now, err)
					}
				}
			}
		}
	})
}

func TestFirstAndLastTick(t *testing.T) { // P16.2: now of 0 and of MaxTime may be
	for _, long := range lengths() {
		for _, now := range []int64{0, 1 << 40} {
			b := pairUp(t, long)
			if e, err := b.take(0, now); e != 1 || err != nil {
				t.Errorf("long %d: Take(0, %d): %d, %v", long, now, e, err)
			}
			if err := b.renew(0, 1, now); err != nil {
				t.Errorf("long %d: Renew(0, 1, %d): %v", long, now, err)
			}
			if e, err := b.take(1, now); e != 0 || err != api.ErrBusy {
				t.Errorf("long %d: Take(1, %d): %d, %v", long, now, e, err)
			}
		}
	}
}

func TestUpToItsTick(t *testing.T) { // P16.1, P16.2: just below that tick, at it, and behind it
	for _, long := range lengths() {
		for d, want := range []error{api.ErrBusy, nil, nil} {
			b := pairUp(t, long)
			b.take(3, base)
			now := int64(base + long - 1 + d)
			w, is := b.l.Holder(now)
			if is != (want != nil) || is && w != 3 {
				t.Errorf("long %d: Holder(%d): %d, %v", long, now, w, is)
			}
			e, err := b.take(4, now)
			if err != want || err == nil && e != 2 {
				t.Errorf("long %d: Take(4, %d): %d, %v", long, now, e, err)
			}
		}
	}
}

func TestHolderOfFarTicks(t *testing.T) { // P16.1: any below, one below 0, too
	for _, long := range lengths() {
		b := pairUp(t, long)
		b.take(2, 0)
		for _, now := range farTicks() {
			w, is := b.l.Holder(now)
			if is != (now < int64(long)) || is && w != 2 || !is && w != 0 {
				t.Errorf("long %d: Holder(%d): %d, %v", long, now, w, is)
			}
		}
	}
}

func TestTakeByTheHolder(t *testing.T) { // P16.2: the same epoch, and up to now and long anew
	for _, long := range lengths() {
		for _, now := range []int64{0, base - 1, base, base + 1, base + int64(long) - 1, base + int64(long), base + int64(long) + 1, 1 << 40} {
			b := pairUp(t, long)
			b.take(0, base)
			if e, err := b.take(0, now); e != 1 || err != nil {
				t.Errorf("long %d: Take(0, %d): %d, %v", long, now, e, err)
			}
			if w, is := b.l.Holder(now + int64(long)); is {
				t.Errorf("long %d: Take(0, %d): it is held by %d for too long", long, now, w)
			}
			if _, is := b.l.Holder(now + int64(long) - 1); !is {
				t.Errorf("long %d: Take(0, %d): it is not held for long enough", long, now)
			}
		}
	}
}

func TestTakeByAnotherOneWhenTheTimeRanOut(t *testing.T) { // P16.2, P16.3
	for _, long := range lengths() {
		b := pairUp(t, long)
		b.take(0, base)
		checks(t, b.l, 0, 1, nil)
		if e, err := b.take(1, int64(base+long)); e != 2 || err != nil {
			t.Errorf("long %d: %d, %v", long, e, err)
		}
		checks(t, b.l, 0, 1, api.ErrStale)
		checks(t, b.l, 0, 2, api.ErrStale)
		checks(t, b.l, 1, 2, nil)
		if e, err := b.take(0, int64(base+2*long)); e != 3 || err != nil {
			t.Errorf("long %d: %d, %v", long, e, err)
		}
		checks(t, b.l, 0, 1, api.ErrStale)
		checks(t, b.l, 1, 2, api.ErrStale)
		checks(t, b.l, 0, 3, nil)
	}
}

func TestHolderWhoseTimeRanOut(t *testing.T) { // P16.2: Check, Renew and Release ask no tick
	for _, long := range lengths() {
		b := pairUp(t, long)
		b.take(0, 0)
		if w, is := b.l.Holder(base); is {
			t.Errorf("long %d: it is held by %d", long, w)
		}
		checks(t, b.l, 0, 1, nil)
		if err := b.renew(0, 1, base); err != nil {
			t.Errorf("long %d: Renew: %v", long, err)
		}
		if w, is := b.l.Holder(base); w != 0 || !is {
			t.Errorf("long %d: renewed: %d, %v", long, w, is)
		}
		b.renew(0, 1, 0)
		if err := b.release(0, 1); err != nil {
			t.Errorf("long %d: Release: %v", long, err)
		}
	}
}

func TestTakeBehindRelease(t *testing.T) { // P16.2: it has no holder, so whoever takes it is told one more
	for _, long := range lengths() {
		for _, w := range []int{0, 1, 15, math.MaxInt} {
			for _, now := range []int64{0, base - 1, base, base + int64(long), 1 << 40} {
				b := pairUp(t, long)
				b.take(0, base)
				b.release(0, 1)
				checks(t, b.l, 0, 1, api.ErrStale)
				if by, is := b.l.Holder(base); by != 0 || is || b.l.Epoch() != 1 {
					t.Errorf("long %d: released: %d, %v, epoch %d", long, by, is, b.l.Epoch())
				}
				if e, err := b.take(w, now); e != 2 || err != nil {
					t.Errorf("long %d: Take(%d, %d): %d, %v", long, w, now, e, err)
				}
				checks(t, b.l, 0, 1, api.ErrStale)
				checks(t, b.l, w, 2, nil)
			}
		}
	}
}

func TestReleaseTwice(t *testing.T) { // P16.2
	b := pairUp(t, 5)
	b.take(0, 0)
	if err := b.release(0, 1); err != nil {
		t.Errorf("Release: %v", err)
	}
	if err := b.release(0, 1); err != api.ErrStale {
		t.Errorf("Release, Release: %v", err)
	}
	if err := b.renew(0, 1, 0); err != api.ErrStale {
		t.Errorf("Release, Renew: %v", err)
	}
}

func TestOtherEpochsAndWorkers(t *testing.T) { // P16.2: ErrStale, and nothing has turned
	for _, long := range lengths() {
		b := pairUp(t, long)
		b.take(0, 0)
		b.take(1, 2000)
		b.take(2, base)
		for _, e := range []uint64{0, 1, 2, 4, 3 + 1<<32, math.MaxUint64} {
			b.isStale(2, e)
		}
		for _, w := range []int{0, 1, 3, 15, 2 + 1<<32, math.MaxInt} {
			b.isStale(w, 3)
		}
		checks(t, b.l, 2, 3, nil)
	}
}

func (b *both) isStale(w int, epoch uint64) {
	b.t.Helper()
	checks(b.t, b.l, w, epoch, api.ErrStale)
	for _, now := range []int64{0, base, base + b.m.long, 1 << 40} {
		if err := b.renew(w, epoch, now); err != api.ErrStale {
			b.t.Errorf("long %d: Renew(%d, %d, %d): %v", b.m.long, w, epoch, now, err)
		}
	}
	if err := b.release(w, epoch); err != api.ErrStale {
		b.t.Errorf("long %d: Release(%d, %d): %v", b.m.long, w, epoch, err)
	}
}

func TestManyEpochs(t *testing.T) { // P16.3: they rise one by one, and only the last one passes
	b := pairUp(t, 2)
	for i := range 400 {
		if e, err := b.take(i%3, int64(2*i)); e != uint64(i+1) || err != nil {
			t.Fatalf("%d: %d, %v", i, e, err)
		}
	}
	for i := range 399 {
		checks(t, b.l, i%3, uint64(i+1), api.ErrStale)
	}
}
