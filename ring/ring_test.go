package ring_test

import (
	"math"
	"runtime"
	"slices"
	"testing"
	"weak"

	"garnet/api"
	"garnet/ring"
)

func TestNumbers(t *testing.T) { // DOC.md, Words
	if api.MaxRing != 64 || int(api.ErrArg) != 1 || int(api.ErrNone) != 3 || int(api.ErrFull) != 5 {
		t.Error("there are other limits, or errors")
	}
}

func TestExample(t *testing.T) { // P15.1, the chapter's table
	r := newRing[string](t, 1)
	if err := r.Put("a"); err != nil {
		t.Errorf("put: %v", err)
	}
	if err := r.Put("b"); err != api.ErrFull {
		t.Errorf("put, put: %v", err)
	}
	if x, err := r.Take(); x != "a" || err != nil {
		t.Errorf("take: %q, %v", x, err)
	}
	if x, err := r.Take(); x != "" || err != api.ErrNone {
		t.Errorf("take, take: %q, %v", x, err)
	}
}

// refused holds that rings of a type are not made where there may be none: the
// nil one that is told then takes no calls (P1), so none is made here.
func refused[T any](t *testing.T, n int) {
	t.Helper()
	if r, err := ring.New[T](n); r != nil || err != api.ErrArg {
		t.Errorf("New(%d): %v, %v", n, r, err)
	}
}

func TestNewWrong(t *testing.T) { // P15.1, R3
	for _, n := range []int{math.MinInt, math.MinInt + 1, -1 << 32, -1<<32 + 1, -65, -64, -63, -2, -1, 0,
		65, 66, 127, 128, 129, 1000, 1 << 16, 1 << 32, 1<<32 + 1, 1<<32 + 64, math.MaxInt - 1, math.MaxInt} {
		refused[int](t, n)
		refused[string](t, n)
		refused[[]byte](t, n)
		refused[struct{}](t, n)
		refused[func()](t, n)
		refused[*api.Req](t, n)
	}
}

func TestNewOfEachRoom(t *testing.T) { // P15.1: it is empty, and has room for just so many
	for n := 1; n <= 64; n++ {
		b := numbers(t, n)
		if err := b.take(); err != api.ErrNone {
			t.Errorf("room %d: Take of a new one: %v", n, err)
		}
		if many := b.drain(); many != 0 {
			t.Errorf("room %d: a new one drained: %d", n, many)
		}
		for i := range n {
			if err := next(b); err != nil {
				t.Errorf("room %d: put %d: %v", n, i+1, err)
			}
		}
		if err := next(b); err != api.ErrFull {
			t.Errorf("room %d: put %d: %v", n, n+1, err)
		}
		if many := b.drain(); many != n {
			t.Errorf("room %d: a full one drained: %d", n, many)
		}
	}
}

func TestNewIsAsNewAtFirst(t *testing.T) { // P15.1
	for _, n := range someRooms() {
		r := newRing[int](t, n)
		if taken, put := r.Stamps(); r.Len() != 0 || taken != 0 || put != 0 {
			t.Errorf("room %d: Len %d, Stamps %d, %d", n, r.Len(), taken, put)
		}
	}
}

func TestPutWhereThereIsRoomForOneMore(t *testing.T) { // P15.1
	eachWithRoomFor(t, 1, func(t *testing.T, b both[int]) {
		if err := next(b); err != nil {
			t.Fatalf("room %d: %v", b.m.room, err)
		}
		if err := next(b); err != api.ErrFull {
			t.Fatalf("room %d: one more: %v", b.m.room, err)
		}
		b.drain()
	})
}

func TestPutWhereThereIsNoRoom(t *testing.T) { // P15.1: and nothing has turned
	eachWithRoomFor(t, 0, func(t *testing.T, b both[int]) {
		for range 3 {
			if err := b.put(-1); err != api.ErrFull {
				t.Fatalf("room %d: %v", b.m.room, err)
			}
		}
		for range b.m.room {
			b.take()
		}
		b.take()
	})
}

func TestPutBehindARefusedOne(t *testing.T) { // P15.1: what was refused is not in it later on
	eachWithRoomFor(t, 0, func(t *testing.T, b both[int]) {
		b.put(-1)
		b.take()
		if err := next(b); err != nil {
			t.Fatalf("room %d: behind a Take: %v", b.m.room, err)
		}
		b.put(-1)
		b.drain()
	})
}

func TestTakeOfAnEmptyOne(t *testing.T) { // P15.1, R3: and nothing has turned
	for _, room := range someRooms() {
		for gone := range 2*room + 1 {
			drained := turned(t, room, gone, room)
			drained.drain()
			for _, b := range []both[int]{turned(t, room, gone, 0), drained} {
				for range 3 {
					if err := b.take(); err != api.ErrNone {
						t.Fatalf("room %d: %v", room, err)
					}
				}
				next(b)
				b.take()
				b.take()
			}
		}
	}
}

func TestDrain(t *testing.T) { // P15.1: none, one, some, all that there is room for
	eachTurned(t, func(t *testing.T, b both[int]) {
		in := len(b.m.in())
		if many := b.drain(); many != in {
			t.Fatalf("room %d: %d, not %d", b.m.room, many, in)
		}
		if many := b.drain(); many != 0 {
			t.Fatalf("room %d: drained again: %d", b.m.room, many)
		}
		if err := b.take(); err != api.ErrNone {
			t.Fatalf("room %d: taken behind it: %v", b.m.room, err)
		}
	})
}

func TestPutBehindDrain(t *testing.T) { // P15.1: there is room for all again
	eachTurned(t, func(t *testing.T, b both[int]) {
		b.drain()
		for range b.m.room {
			if err := next(b); err != nil {
				t.Fatalf("room %d: %v", b.m.room, err)
			}
		}
		if err := next(b); err != api.ErrFull {
			t.Fatalf("room %d: %v", b.m.room, err)
		}
		b.take()
		b.drain()
	})
}

func TestOneAtATime(t *testing.T) { // P15.1, P15.2: many more are put than there is room for
	for _, room := range someRooms() {
		for in := range min(room, 5) { // so many stay in it
			b := turned(t, room, 0, in)
			for range 5*room + 100 {
				next(b)
				b.take()
			}
			b.drain()
		}
	}
}

func TestFilledAndEmptied(t *testing.T) { // P15.1, P15.2: whole, by Take and by Drain
	for _, room := range someRooms() {
		b := numbers(t, room)
		for round := range 20 {
			for range room {
				next(b)
			}
			b.put(-1)
			if round%3 == 0 {
				b.drain()
			}
			for b.r.Len() > 0 {
				b.take()
			}
			b.take()
		}
		if len(b.m.all) != 20*room {
			t.Errorf("room %d: %d were put", room, len(b.m.all))
		}
	}
}

func TestHalfFilledAndHalfEmptied(t *testing.T) { // P15.1, P15.2
	for _, room := range someRooms() {
		half := (room + 1) / 2
		b := turned(t, room, 0, room/2)
		for range 40 {
			for range half {
				next(b)
			}
			for range half {
				b.take()
			}
		}
		if in := b.drain(); in != room/2 {
			t.Errorf("room %d: %d were left", room, in)
		}
	}
}

func TestVeryMany(t *testing.T) { // P15.1: stamps count ever, beyond small numbers
	r := newRing[int](t, 3)
	const many = 200000
	for i := range many {
		r.Put(i)
		if x, err := r.Take(); x != i || err != nil {
			t.Fatalf("Take: %d, %v, not %d", x, err, i)
		}
	}
	if taken, put := r.Stamps(); taken != many || put != many || r.Len() != 0 {
		t.Errorf("Stamps: %d, %d; Len %d", taken, put, r.Len())
	}
}

func TestAlikeElementsEachCount(t *testing.T) { // P15.1, P15.2
	for _, x := range []int{0, 7} {
		for _, room := range someRooms() {
			b := numbers(t, room)
			for range 3 {
				for range room {
					if err := b.put(x); err != nil {
						t.Errorf("room %d: %v", room, err)
					}
				}
				if err := b.put(x); err != api.ErrFull {
					t.Errorf("room %d: %v", room, err)
				}
				b.take()
				if many := b.drain(); many != room-1 {
					t.Errorf("room %d: %d were left", room, many)
				}
			}
		}
	}
}

func TestZeroAmongOthers(t *testing.T) { // P15.1: a zero element is one
	b := numbers(t, 5)
	for range 4 {
		for _, x := range []int{0, 3, 0, 0, 4} {
			b.put(x)
		}
		b.take()
		b.take()
		b.put(0)
		b.take()
		b.drain()
	}
}

func TestRingsAreApart(t *testing.T) { // P15.1: one is no other one, of the same room and type or not
	draw := draws()
	var l []both[int]
	for _, room := range []int{1, 2, 2, 3, 3, 64, 64} {
		l = append(l, numbers(t, room))
	}
	for range 5000 {
		b := l[draw(len(l))]
		switch draw(6) {
		case 0, 1, 2:
			next(b)
		case 3, 4:
			b.take()
		case 5:
			if draw(b.m.room) == 0 {
				b.drain()
			}
		}
		for _, other := range l {
			other.agree()
		}
	}
	for _, b := range l {
		b.drain()
	}
}

func TestLooksTurnNothing(t *testing.T) { // P15.1
	eachTurned(t, func(t *testing.T, b both[int]) {
		for range 3 {
			b.agree()
		}
		b.drain()
	})
}

// scribble writes over a list, and over the room behind it.
func scribble(l []int) {
	l = l[:cap(l)]
	for i := range l {
		l[i] = -7
	}
}

func TestRingDoesNotFollowWhatDrainTold(t *testing.T) { // R2
	eachTurned(t, func(t *testing.T, b both[int]) {
		l := b.r.Drain()
		b.m.drain()
		half := b.m.room / 2
		for range half {
			next(b)
		}
		scribble(l)
		b.agree()
		for range b.m.room - half {
			next(b)
		}
		scribble(l)
		l = append(l, -8)
		scribble(l)
		b.take()
		b.drain()
	})
}

func TestWhatDrainToldDoesNotFollowTheRing(t *testing.T) { // R2
	eachTurned(t, func(t *testing.T, b both[int]) {
		want := slices.Clone(b.m.in())
		l := b.r.Drain()
		b.m.drain()
		for range 2 {
			for range b.m.room {
				next(b)
			}
			b.take()
			b.drain()
		}
		if !slices.Equal(l, want) {
			t.Fatalf("room %d: %v, not %v", b.m.room, l, want)
		}
	})
}

func TestWhatDrainToldIsApart(t *testing.T) { // R2: one list, and the one told behind it
	for _, room := range someRooms() {
		b := turned(t, room, 1, room)
		first := b.r.Drain()
		b.m.drain()
		for range room {
			next(b)
		}
		want := slices.Clone(b.m.in())
		second := b.r.Drain()
		b.m.drain()
		scribble(first)
		if !slices.Equal(second, want) {
			t.Errorf("room %d: %v, not %v", room, second, want)
		}
	}
}

// heavy is what is told apart from what is kept, by whether it may be swept.
type heavy struct{ bytes [64]byte }

// putHeavy puts a new one: the ring alone has it then.
func putHeavy(t *testing.T, r *ring.Ring[*heavy]) weak.Pointer[heavy] {
	h := &heavy{}
	if err := r.Put(h); err != nil {
		t.Fatalf("Put: %v", err)
	}
	return weak.Make(h)
}

func TestNothingOfWhatWasTakenIsKept(t *testing.T) { // P15.1: it isn't in it any more
	const room = 4
	// It is seen by what the sweep leaves, as the calls themselves would tell
	// nothing of it.
	for name, empty := range map[string]func(*ring.Ring[*heavy]){
		"Take": func(r *ring.Ring[*heavy]) {
			for range room {
				r.Take()
			}
		},
		"Drain": func(r *ring.Ring[*heavy]) { r.Drain() },
	} {
		r := newRing[*heavy](t, room)
		var all []weak.Pointer[heavy]
		for range room {
			all = append(all, putHeavy(t, r))
		}
		runtime.GC()
		for i, w := range all {
			if w.Value() == nil {
				t.Errorf("%s: %d is lost", name, i)
			}
		}
		empty(r)
		for range 5 {
			runtime.GC()
		}
		for i, w := range all {
			if w.Value() != nil {
				t.Errorf("%s: %d is kept", name, i)
			}
		}
		runtime.KeepAlive(r)
	}
}
