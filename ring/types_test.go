package ring_test

import (
	"bytes"
	"errors"
	"math"
	"reflect"
	"slices"
	"testing"

	"garnet/api"
	"garnet/ring"
)

// Rings of each type of elements go by one check. A list that is handed to it
// has elements that are zero, and ones that aren't.

func deep[T any](a, b T) bool { return reflect.DeepEqual(a, b) }

// ofType checks rings of a type, each room that makes a difference to so many
// elements.
func ofType[T any](t *testing.T, name string, some []T, same func(a, b T) bool) {
	t.Run(name, func(t *testing.T) {
		for _, room := range []int{1, 2, len(some), len(some) + 1, 64} {
			fill(t, room, some, same)
			mix(t, room, some, same)
		}
		zero(t, same)
	})
}

// fill puts all elements, from each one on, and takes them in each way.
func fill[T any](t *testing.T, room int, some []T, same func(a, b T) bool) {
	t.Helper()
	b := pairUp(t, room, same)
	for from := range some {
		for i := range max(room, len(some)) + 1 {
			b.put(some[(from+i)%len(some)])
		}
		if from%2 == 0 {
			b.take()
			b.drain()
		}
		for b.r.Len() > 0 {
			b.take()
		}
		b.take()
		b.drain()
	}
}

// mix does any calls.
func mix[T any](t *testing.T, room int, some []T, same func(a, b T) bool) {
	t.Helper()
	draw := draws()
	b := pairUp(t, room, same)
	for range 1000 {
		switch draw(9) {
		case 0, 1, 2, 3:
			b.put(some[draw(len(some))])
		case 4, 5, 6, 7:
			b.take()
		case 8:
			if draw(room) == 0 {
				b.drain()
			}
		}
	}
	b.drain()
}

// zero holds that ErrNone stands beside the type's zero value, and that a zero
// value that was put is told without an error.
func zero[T any](t *testing.T, same func(a, b T) bool) {
	t.Helper()
	var none T
	r := newRing[T](t, 2)
	for range 3 {
		if x, err := r.Take(); !same(x, none) || err != api.ErrNone {
			t.Errorf("Take of an empty one: %v, %v", x, err)
		}
		if l := r.Drain(); len(l) != 0 {
			t.Errorf("Drain of an empty one: %v", l)
		}
		r.Put(none)
		if x, err := r.Take(); !same(x, none) || err != nil {
			t.Errorf("Take of a zero one: %v, %v", x, err)
		}
		r.Put(none)
		r.Put(none)
		if l := r.Drain(); !slices.EqualFunc(l, []T{none, none}, same) {
			t.Errorf("Drain of two zero ones: %v", l)
		}
	}
}

func TestOfNumbers(t *testing.T) { // P15.1, R3
	ofType(t, "int", []int{0, 1, -1, math.MinInt, math.MaxInt}, equal)
	ofType(t, "uint64", []uint64{0, 1, math.MaxUint64, 1 << 63}, equal)
	ofType(t, "int8", []int8{0, -128, 127}, equal)
	ofType(t, "byte", []byte{0, 255, 1}, equal)
	ofType(t, "bool", []bool{false, true}, equal)
	ofType(t, "complex", []complex128{0, 1i, complex(1, -1)}, equal)
	floats := []float64{0, math.Copysign(0, -1), 1, math.Inf(1), math.Inf(-1), math.NaN(), math.MaxFloat64}
	ofType(t, "float", floats, func(a, b float64) bool { return math.Float64bits(a) == math.Float64bits(b) })
}

func TestOfTexts(t *testing.T) { // P15.1, R3
	ofType(t, "texts", []string{"", "a", "A", "\x00", "\xff", "more than a few"}, equal)
	ofType(t, "runes", []rune{0, 'a', 0x10ffff, -1}, equal)
}

// point and labelled are structs; labelled isn't comparable.
type point struct{ x, y int }

type labelled[T any] struct {
	name string
	all  []T
}

func TestOfStructs(t *testing.T) { // P15.1, R3
	ofType(t, "no fields", []struct{}{{}, {}}, equal)
	ofType(t, "point", []point{{}, {1, 2}, {2, 1}, {0, 1}}, equal)
	ofType(t, "array", [][3]point{{}, {{1, 2}}, {{}, {}, {3, 4}}}, equal)
	ofType(t, "generic", []labelled[int]{{}, {"a", nil}, {"", []int{1}}, {"b", []int{}}}, deep)
	ofType(t, "request", []api.Req{{}, {Client: 1, Kind: api.OpPut, Key: []byte("a"), Val: []byte("1")}, {Seq: 2, Kind: api.OpScan, Limit: 3}}, deep)
	ofType(t, "answer", []api.Res{{}, {Code: 3}, {Found: true, Rows: []api.Pair{{}, {Key: []byte("a")}}}}, deep)
}

func TestOfSlicesAndMaps(t *testing.T) { // P15.1, R3: nil ones, empty ones, and others
	ofType(t, "bytes", [][]byte{nil, {}, []byte("a"), []byte("bc"), bytes.Repeat([]byte("x"), 100)}, deep)
	ofType(t, "rows", [][]api.Pair{nil, {}, {{}}, {{Key: []byte("a")}, {Val: []byte("b")}}}, deep)
	ofType(t, "lists", [][][]int{nil, {}, {nil}, {{1}, {2, 3}}}, deep)
	ofType(t, "maps", []map[string]int{nil, {}, {"a": 1}, {"a": 2, "b": 3}}, deep)
}

func TestOfPointers(t *testing.T) { // P15.1, R3: the very same one is taken
	a, b := 1, 1
	ofType(t, "to numbers", []*int{nil, &a, &b}, equal)
	ofType(t, "to structs", []*point{nil, {1, 2}, {1, 2}, {}}, equal)
	ofType(t, "to pointers", []**int{nil, new(*int), new(&a)}, equal)
	ofType(t, "to rings", []*ring.Ring[int]{nil, newRing[int](t, 1), newRing[int](t, 64)}, equal)
	ofType(t, "channels", []chan int{nil, make(chan int), make(chan int, 1)}, equal)
}

func TestOfFunctions(t *testing.T) { // P15.1, R3: told by what they answer
	same := func(a, b func() int) bool {
		if a == nil || b == nil {
			return a == nil && b == nil
		}
		return a() == b()
	}
	three := 3
	ofType(t, "functions", []func() int{nil, func() int { return 1 }, func() int { return 2 }, func() int { return three }}, same)
}

// byPointer is an error that a nil pointer is, too.
type byPointer struct{ n int }

func (*byPointer) Error() string { return "by pointer" }

func TestOfInterfaces(t *testing.T) { // P15.1, R3: nil, ones that aren't nil though what is in them is, and others
	ofType(t, "any", []any{nil, 0, 1, "", "a", []int(nil), []int{1}, (*int)(nil), struct{}{}, point{1, 2}, api.ErrFull, map[int]int(nil)}, deep)
	same := func(a, b error) bool { return a == b }
	ofType(t, "errors", []error{nil, (*byPointer)(nil), &byPointer{1}, &byPointer{1}, api.ErrNone, api.ErrFull, errors.New("x")}, same)
}

func TestFunctionsAreNotCalled(t *testing.T) { // P1: what is in a ring does nothing
	r := newRing[func()](t, 2)
	f := func() { panic("it was called") }
	for range 3 {
		r.Put(f)
		r.Put(f)
		r.Put(f)
		if g, err := r.Take(); g == nil || err != nil {
			t.Errorf("Take: %v", err)
		}
		if l := r.Drain(); len(l) != 1 || l[0] == nil {
			t.Errorf("Drain: %d", len(l))
		}
	}
}

func TestErrorsAsElements(t *testing.T) { // P15.1: an error that is an element is no error of Take
	r := newRing[error](t, 2)
	r.Put(api.ErrNone)
	r.Put(api.ErrFull)
	if err := r.Put(nil); err != api.ErrFull {
		t.Errorf("Put: %v", err)
	}
	if x, err := r.Take(); x != api.ErrNone || err != nil {
		t.Errorf("Take: %v, %v", x, err)
	}
	r.Put(nil)
	if l := r.Drain(); len(l) != 2 || l[0] != api.ErrFull || l[1] != nil {
		t.Errorf("Drain: %v", l)
	}
}

// order is a named type whose ring is named, too.
type order int

type orders = ring.Ring[order]

func TestRingIsAType(t *testing.T) { // Types: it may be named, pointed to, and be in others
	var both struct{ a, b *orders }
	both.a, both.b = newRing[order](t, 1), newRing[order](t, 2)
	both.a.Put(3)
	both.b.Put(4)
	both.b.Put(5)
	if l := append(both.a.Drain(), both.b.Drain()...); !slices.Equal(l, []order{3, 4, 5}) {
		t.Errorf("%v", l)
	}
}
