package ring_test

import (
	"slices"
	"strconv"
	"testing"

	"garnet/api"
	"garnet/ring"
)

// draws is numbers that look like chance and are the same in each run.
func draws() func(k int) int {
	seed := uint64(1)
	return func(k int) int {
		seed = seed*6364136223846793005 + 1442695040888963407
		return int(seed>>33) % k
	}
}

// newRing is an empty one.
func newRing[T any](t *testing.T, n int) *ring.Ring[T] {
	t.Helper()
	r, err := ring.New[T](n)
	if err != nil || r == nil {
		t.Fatalf("New(%d): %v, %v", n, r, err)
	}
	return r
}

// model is P15.1 once more: all that was ever put, and how many of that, from
// the first one on, were taken.
type model[T any] struct {
	room  int
	all   []T
	taken int
}

func (m *model[T]) in() []T { return m.all[m.taken:] }

func (m *model[T]) put(x T) error {
	if len(m.in()) == m.room {
		return api.ErrFull
	}
	m.all = append(m.all, x)
	return nil
}

func (m *model[T]) take() (T, error) {
	var none T
	if len(m.in()) == 0 {
		return none, api.ErrNone
	}
	m.taken++
	return m.all[m.taken-1], nil
}

func (m *model[T]) drain() []T {
	l := slices.Clone(m.in())
	m.taken = len(m.all)
	return l
}

// both is a ring, and the model of it: each call is done on both, and held
// against it.
type both[T any] struct {
	t    *testing.T
	r    *ring.Ring[T]
	m    *model[T]
	same func(a, b T) bool
}

func pairUp[T any](t *testing.T, n int, same func(a, b T) bool) both[T] {
	t.Helper()
	b := both[T]{t, newRing[T](t, n), &model[T]{room: n}, same}
	b.agree()
	return b
}

func equal[T comparable](a, b T) bool { return a == b }

// numbers is a ring of ints, and the model of it.
func numbers(t *testing.T, n int) both[int] {
	t.Helper()
	return pairUp(t, n, equal[int])
}

// agree holds all that may be seen of a ring without a call that turns it.
func (b both[T]) agree() {
	b.t.Helper()
	if n := b.r.Len(); n != len(b.m.in()) {
		b.t.Fatalf("room %d: Len: %d, not %d", b.m.room, n, len(b.m.in()))
	}
	taken, put := b.r.Stamps()
	if taken != uint64(b.m.taken) || put != uint64(len(b.m.all)) {
		b.t.Fatalf("room %d: Stamps: %d, %d, not %d, %d", b.m.room, taken, put, b.m.taken, len(b.m.all))
	}
}

// Errors are held by ==, for each is to be the Code itself, not a wrapping.

func (b both[T]) put(x T) error {
	b.t.Helper()
	err, fault := b.r.Put(x), b.m.put(x)
	if err != fault {
		b.t.Fatalf("room %d: Put: %v, not %v", b.m.room, err, fault)
	}
	b.agree()
	return fault
}

func (b both[T]) take() error {
	b.t.Helper()
	x, err := b.r.Take()
	want, fault := b.m.take()
	if !b.same(x, want) || err != fault {
		b.t.Fatalf("room %d: Take: %v, %v, not %v, %v", b.m.room, x, err, want, fault)
	}
	b.agree()
	return fault
}

func (b both[T]) drain() int {
	b.t.Helper()
	l, want := b.r.Drain(), b.m.drain()
	if !slices.EqualFunc(l, want, b.same) {
		b.t.Fatalf("room %d: Drain: %v, not %v", b.m.room, l, want)
	}
	b.agree()
	return len(want)
}

// next is put as the one behind all that were put, so that each is another one.
func next(b both[int]) error {
	b.t.Helper()
	return b.put(1000 + len(b.m.all))
}

// turned is a ring in which so many were put and taken, and then so many put.
func turned(t *testing.T, room, gone, in int) both[int] {
	t.Helper()
	b := numbers(t, room)
	for range gone {
		next(b)
		b.take()
	}
	for range in {
		next(b)
	}
	if b.r.Len() != in {
		t.Fatalf("room %d: %d in it, not %d", room, b.r.Len(), in)
	}
	return b
}

// someRooms is the rooms that the document names, and some between.
func someRooms() []int { return []int{1, 2, 3, 4, 5, 7, 8, 31, 32, 33, 63, 64} }

// eachTurned goes through all rings of a room that differ in what is in them,
// and in where it begins.
func eachTurned(t *testing.T, f func(t *testing.T, b both[int])) {
	for _, room := range someRooms() {
		t.Run("room "+strconv.Itoa(room), func(t *testing.T) {
			for gone := range room + 2 {
				for in := range room + 1 {
					f(t, turned(t, room, gone, in))
				}
			}
		})
	}
}

// eachWithRoomFor is those of them that have room for just so many more.
func eachWithRoomFor(t *testing.T, more int, f func(t *testing.T, b both[int])) {
	for _, room := range someRooms() {
		t.Run("room "+strconv.Itoa(room), func(t *testing.T) {
			for gone := range 2*room + 2 {
				f(t, turned(t, room, gone, room-more))
			}
		})
	}
}

// run does a sequence of calls: p puts, t takes, d drains; all that is left in
// the ring is told at its end.
func run(t *testing.T, room int, calls string) {
	t.Helper()
	b := numbers(t, room)
	for _, c := range calls {
		switch c {
		case 'p':
			next(b)
		case 't':
			b.take()
		case 'd':
			b.drain()
		}
	}
	b.drain()
	b.take()
}

func TestEachShortSequence(t *testing.T) { // P15.1, P15.2
	for _, room := range []int{1, 2, 3, 4, 64} {
		sequences := []string{""}
		for range 8 {
			var longer []string
			for _, s := range sequences {
				for _, c := range []string{"p", "t", "d"} {
					longer = append(longer, s+c)
					run(t, room, s+c)
				}
			}
			sequences = longer
		}
	}
}

func TestAgainstAModel(t *testing.T) { // P15.1, P15.2
	draw := draws()
	for _, room := range someRooms() {
		b := numbers(t, room)
		seen := map[string]int{}
		for range 60 {
			often := 1 + draw(9) // of ten calls that put or take, so many put
			for range 20 + 3*room {
				switch {
				case draw(4*room) == 0:
					seen["drained "+strconv.FormatBool(b.drain() > 0)]++
				case draw(10) < often:
					seen["put "+strconv.FormatBool(next(b) == nil)]++
				default:
					seen["taken "+strconv.FormatBool(b.take() == nil)]++
				}
			}
		}
		for _, name := range []string{"drained true", "put true", "put false", "taken true", "taken false"} {
			if seen[name] < 15 {
				t.Errorf("room %d: %s was seen %d times", room, name, seen[name])
			}
		}
		b.drain()
	}
}

func TestStampsNeverGoBack(t *testing.T) { // P15.2: by what is told alone
	draw := draws()
	for _, room := range someRooms() {
		r := newRing[int](t, room)
		var taken, put uint64
		for i := range 3000 {
			switch draw(5) {
			case 0, 1:
				r.Put(i)
			case 2, 3:
				r.Take()
			case 4:
				if draw(room) == 0 {
					r.Drain()
				}
			}
			a, b := r.Stamps()
			if a < taken || b < put || a > b || b-a != uint64(r.Len()) || r.Len() > room {
				t.Fatalf("room %d: Stamps %d, %d behind %d, %d; Len %d", room, a, b, taken, put, r.Len())
			}
			taken, put = a, b
		}
		if taken < 500 {
			t.Errorf("room %d: %d were taken", room, taken)
		}
	}
}

func TestEachIsTakenOnceInOrder(t *testing.T) { // P15.2: by what is told alone
	draw := draws()
	for _, room := range someRooms() {
		r := newRing[int](t, room)
		put, told := 0, 0
		tell := func(l ...int) {
			for _, x := range l {
				if x != told {
					t.Fatalf("room %d: %d was taken where %d is the next one", room, x, told)
				}
				told++
			}
		}
		for range 5000 {
			switch draw(7) {
			case 0, 1, 2:
				if r.Put(put) == nil {
					put++
				}
			case 3, 4, 5:
				if x, err := r.Take(); err == nil {
					tell(x)
				}
			case 6:
				if draw(room) == 0 {
					tell(r.Drain()...)
				}
			}
		}
		tell(r.Drain()...)
		if told != put || put < 1000 {
			t.Errorf("room %d: %d were put, %d taken", room, put, told)
		}
	}
}
