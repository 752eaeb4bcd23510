package trap_test

import (
	"errors"
	"math"
	"reflect"
	"runtime"
	"slices"
	"strings"
	"testing"

	"garnet/api"
	"garnet/trap"
)

// textless is an error whose text can't be had: Error panics.
type textless struct{ n int }

func (*textless) Error() string { panic("no text") }

// listed is an error that == can't be asked of.
type listed []string

func (l listed) Error() string { return strings.Join(l, ", ") }

// wrapping is an error around another.
type wrapping struct{ inner error }

func (w wrapping) Error() string { return "wrapping" }
func (w wrapping) Unwrap() error { return w.inner }

// notQuite has a method of that name, and is no error.
type notQuite struct{}

func (notQuite) Error() int { return 0 }

// byPointer is an error as a pointer alone, not as a value.
type byPointer struct{ n int }

func (*byPointer) Error() string { return "by pointer" }

func throws(v any) func() { return func() { trap.Throw(v) } }

// trapped is the Trapped that an error is itself, not one that it wraps.
func trapped(t *testing.T, err error) *trap.Trapped {
	t.Helper()
	tr, ok := err.(*trap.Trapped)
	if !ok || tr == nil {
		t.Fatalf("no pointer to a Trapped: %T %v", err, err)
	}
	return tr
}

// same holds values against each other that == may not be asked of.
func same(a, b any) bool {
	if reflect.TypeOf(a) != reflect.TypeOf(b) {
		return false
	}
	if a != nil && !reflect.TypeOf(a).Comparable() {
		return reflect.DeepEqual(a, b)
	}
	return a == b
}

// holds holds an error against the value that was panicked with, and against
// what its Unwrap is to be.
func holds(t *testing.T, err error, value any, unwrap error) {
	t.Helper()
	tr := trapped(t, err)
	if !same(tr.Value, value) {
		t.Errorf("Value: %#v, not %#v", tr.Value, value)
	}
	if u := tr.Unwrap(); !same(u, unwrap) {
		t.Errorf("Unwrap at %#v: %#v, not %#v", value, u, unwrap)
	}
	if !strings.HasPrefix(err.Error(), "panic") {
		t.Errorf("Error at %#v: %q", value, err.Error())
	}
}

// errs is what is an error: each is to be Unwrap's answer.
func errs() []error {
	l := []error{
		errors.New("plain"), &textless{1}, (*textless)(nil), listed{"a", "b"}, listed(nil),
		wrapping{api.ErrBusy}, wrapping{nil}, &byPointer{2}, (*byPointer)(nil),
		&trap.Trapped{Value: 5}, errors.Join(api.ErrArg, api.ErrFull),
		api.Code(0), api.Code(-1), api.Code(math.MaxInt),
	}
	for c := api.ErrArg; c <= api.ErrPanic; c++ {
		l = append(l, c)
	}
	return l
}

// others is what is no error: ErrPanic is to be Unwrap's answer.
func others() []any {
	ch, n := make(chan int), 7
	return []any{
		"text", "", "panic", "\xff\x00", 0, 1, -1, int(api.ErrFull), uint8(255), 2.5, 1i, 'x', true, false,
		struct{}{}, [2]int{1, 2}, []int{1, 2}, []int(nil), []error{api.ErrFull}, map[string]int{"a": 1},
		map[string]int(nil), &n, (*int)(nil), ch, (chan int)(nil),
		notQuite{}, byPointer{2}, trap.Trapped{Value: api.ErrFull}, api.Pair{}, api.Res{Code: int(api.ErrFull)},
	}
}

func TestExample(t *testing.T) { // P4.1, the chapter's table
	err := trap.Call(func() { panic(api.ErrFull) })
	if !errors.Is(err, api.ErrFull) {
		t.Errorf("not ErrFull: %v", err)
	}
	if errors.Is(err, api.ErrPanic) || errors.Is(err, api.ErrBusy) {
		t.Errorf("another error as well: %v", err)
	}
}

func TestCallThatComesBack(t *testing.T) { // P4.1, P4.3
	n := 0
	for i := 1; i <= 3; i++ {
		if err := trap.Call(func() { n++ }); err != nil || n != i {
			t.Errorf("call %d: %v, and %d", i, err, n)
		}
	}
	if err := trap.Call(func() {}); err != nil {
		t.Errorf("a function that does nothing: %v", err)
	}
}

func TestCallOfErrors(t *testing.T) { // P4.1, P4.2
	for _, e := range errs() {
		err := trap.Call(func() { panic(e) })
		holds(t, err, e, e)
		if reflect.TypeOf(e).Comparable() && !errors.Is(err, e) {
			t.Errorf("not errors.Is %#v", e)
		}
		if _, is := e.(api.Code); is && e != api.ErrPanic && errors.Is(err, api.ErrPanic) {
			t.Errorf("errors.Is ErrPanic: %#v", e)
		}
	}
}

func TestCallOfOthers(t *testing.T) { // P4.1, P4.2
	for _, v := range others() {
		err := trap.Call(func() { panic(v) })
		holds(t, err, v, api.ErrPanic)
		if err == error(api.ErrPanic) || !errors.Is(err, api.ErrPanic) || errors.Is(err, api.ErrFull) {
			t.Errorf("at %#v: %#v", v, err)
		}
	}
}

func TestCallOfAFunctionValue(t *testing.T) { // P4.1: not even reflect holds these against each other
	n := 0
	tr := trapped(t, trap.Call(func() { panic(func() { n++ }) }))
	if f, ok := tr.Value.(func()); ok {
		f()
	}
	if n != 1 || tr.Unwrap() != error(api.ErrPanic) {
		t.Errorf("%T, called %d times, %v", tr.Value, n, tr.Unwrap())
	}
}

func TestWrappedErrorIsReached(t *testing.T) { // P4.1
	err := trap.Call(func() { panic(wrapping{wrapping{api.ErrStale}}) })
	if !errors.Is(err, api.ErrStale) || errors.Is(err, api.ErrPanic) {
		t.Errorf("%v", err)
	}
	err = trap.Call(func() { panic(&byPointer{9}) })
	if e, ok := errors.AsType[*byPointer](err); !ok || e.n != 9 {
		t.Errorf("%v: %v, %v", err, e, ok)
	}
}

// raised is what Go itself panics at.
func raised() map[string]func() {
	var list []int
	var table map[string]int
	var pointer *api.Pair
	var function func()
	var value any = "text"
	var lists any = []int{1}
	var asked error
	zero, below, keys := 0, -1, map[any]int{}
	return map[string]func(){
		"index":      func() { list = append(list, list[len(list)+3]) },
		"below 0":    func() { list = append(list, list[below]) },
		"slice":      func() { list = list[5:9] },
		"nil map":    func() { table["a"] = 1 },
		"nil struct": func() { pointer.Key = nil },
		"nil func":   func() { function() },
		"nil error":  func() { _ = asked.Error() },
		"division":   func() { zero = 1 / zero },
		"make":       func() { list = make([]int, below) },
		"assertion":  func() { zero = value.(int) },
		"key":        func() { keys[[]int{1}] = 1 },
		"compare":    func() { _ = lists == any([]int{1}) },
		"array":      func() { list = append(list, [2]int(list[:0])[0]) },
		"closed":     func() { c := make(chan int); close(c); close(c) },
		"send":       func() { c := make(chan int); close(c); c <- 1 },
		"nil close":  func() { close((chan int)(nil)) },
		"nil itself": func() { panic(nil) },
		"nil thrown": func() { trap.Throw(nil) },
	}
}

func TestCallOfWhatGoRaises(t *testing.T) { // P4.1, P4.2, P4.3
	for name, f := range raised() {
		err := trap.Call(f)
		e, ok := errors.AsType[runtime.Error](err)
		if !ok {
			t.Errorf("%s: no error of Go's: %v", name, err)
			continue
		}
		holds(t, err, e, e)
		if errors.Is(err, api.ErrPanic) {
			t.Errorf("%s: ErrPanic", name)
		}
	}
}

func TestNilFunction(t *testing.T) { // P4.1: ErrPanic itself, not a Trapped
	if err := trap.Call(nil); err != error(api.ErrPanic) {
		t.Errorf("Call: %#v", err)
	}
	var none func()
	if err := trap.Call(none); err != error(api.ErrPanic) {
		t.Errorf("Call of a variable: %#v", err)
	}
	if got, err := trap.Get[int](nil); got != 0 || err != error(api.ErrPanic) {
		t.Errorf("Get: %v, %#v", got, err)
	}
	if got, err := trap.Get[error](nil); got != nil || err != error(api.ErrPanic) {
		t.Errorf("Get of an error: %v, %#v", got, err)
	}
	if got, err := trap.Get[[]byte](nil); got != nil || err != error(api.ErrPanic) {
		t.Errorf("Get of bytes: %v, %#v", got, err)
	}
	if l := trap.Each([]func(){nil}); len(l) != 1 || l[0] != error(api.ErrPanic) {
		t.Errorf("Each: %#v", l)
	}
}

// gets holds Get at one type, at a function that comes back with v, and at
// ones that don't, however far they had come.
func gets[T any](t *testing.T, v T) {
	t.Helper()
	if got, err := trap.Get(func() T { return v }); err != nil || !same(got, v) {
		t.Errorf("Get: %#v, %v; not %#v", got, err, v)
	}
	var zero T
	for _, f := range []func() T{
		func() T { panic(api.ErrFull) },
		func() (w T) { w = v; panic(api.ErrFull) },
		func() (w T) { defer func() { w = v; panic(api.ErrFull) }(); return v },
	} {
		got, err := trap.Get(f)
		if !same(got, zero) {
			t.Errorf("Get beside an error: %#v", got)
		}
		holds(t, err, api.ErrFull, api.ErrFull)
	}
	got, err := trap.Get(func() T { panic("text") })
	if !same(got, zero) {
		t.Errorf("Get beside an error: %#v", got)
	}
	holds(t, err, "text", api.ErrPanic)
	if got, err := trap.Get[T](nil); !same(got, zero) || err != error(api.ErrPanic) {
		t.Errorf("Get of nil: %#v, %#v", got, err)
	}
}

func TestGet(t *testing.T) { // P4.1, P4.3
	n := 7
	gets(t, n)
	gets(t, 0)
	gets(t, "text")
	gets(t, true)
	gets(t, uint8(200))
	gets(t, 2.5)
	gets(t, 1+2i)
	gets(t, &n)
	gets(t, []byte("bytes"))
	gets(t, []byte(nil))
	gets(t, map[string]int{"a": 1})
	gets(t, [3]int{1, 2, 3})
	gets(t, struct{}{})
	gets(t, api.Pair{Key: []byte("k"), Val: []byte("v")})
	gets(t, api.Code(5))
	gets(t, make(chan int))
	gets[any](t, "any")
	gets[any](t, nil)
	gets[error](t, api.ErrBusy) // an error that is told is no panic
	gets[error](t, nil)
	gets(t, &trap.Trapped{Value: 1})
}

func TestGetCallsOnce(t *testing.T) { // P4.1
	n := 0
	if got, err := trap.Get(func() int { n++; return n }); got != 1 || err != nil || n != 1 {
		t.Errorf("%d, %v, %d", got, err, n)
	}
	if got, err := trap.Get(func() int { n++; panic(n) }); got != 0 || err == nil || n != 2 {
		t.Errorf("%d, %v, %d", got, err, n)
	}
}

func TestGetOfWhatGoRaises(t *testing.T) { // P4.1
	var l []int
	got, err := trap.Get(func() int { return l[len(l)] })
	if _, ok := errors.AsType[runtime.Error](err); !ok || got != 0 {
		t.Errorf("%d, %v", got, err)
	}
}

func TestOwnRecoverStays(t *testing.T) { // P4.3: what recovers by itself comes back
	got, err := trap.Get(func() (n int) {
		defer func() { n = recover().(int) + 1 }()
		panic(4)
	})
	if got != 5 || err != nil {
		t.Errorf("%d, %v", got, err)
	}
	err = trap.Call(func() {
		defer func() { _ = recover() }()
		panic(4)
	})
	if err != nil {
		t.Errorf("%v", err)
	}
}

func TestEach(t *testing.T) { // P4.1, P4.3
	var order []int
	step := func(i int, v any) func() {
		return func() {
			order = append(order, i)
			if v != nil {
				panic(v)
			}
		}
	}
	l := []func(){
		step(0, nil), step(1, api.ErrFull), step(2, nil), nil, step(4, "text"), step(5, "text"),
		func() { order = append(order, 6); order[99] = 0 }, step(7, nil),
	}
	got := trap.Each(l)
	if want := []int{0, 1, 2, 4, 5, 6, 7}; !slices.Equal(order, want) {
		t.Errorf("called: %v, not %v", order, want)
	}
	if len(got) != len(l) {
		t.Fatalf("%d errors of %d functions", len(got), len(l))
	}
	for _, i := range []int{0, 2, 7} {
		if got[i] != nil {
			t.Errorf("function %d: %v", i, got[i])
		}
	}
	holds(t, got[1], api.ErrFull, api.ErrFull)
	if got[3] != error(api.ErrPanic) {
		t.Errorf("a nil function: %#v", got[3])
	}
	holds(t, got[4], "text", api.ErrPanic)
	holds(t, got[5], "text", api.ErrPanic)
	if _, ok := errors.AsType[runtime.Error](got[6]); !ok {
		t.Errorf("an index out of range: %v", got[6])
	}
}

func TestEachOfNone(t *testing.T) { // P4.1
	for _, l := range [][]func(){nil, {}, make([]func(), 0, 4)} {
		if got := trap.Each(l); len(got) != 0 {
			t.Errorf("%v", got)
		}
	}
}

func TestEachOfMany(t *testing.T) { // P4.1, P1: all panic, and some are nil
	const n = 10000
	l := make([]func(), n)
	for i := range l {
		if i%3 != 0 {
			l[i] = throws(i)
		}
	}
	got := trap.Each(l)
	if len(got) != n {
		t.Fatalf("%d errors", len(got))
	}
	for i, err := range got {
		if i%3 == 0 {
			if err != error(api.ErrPanic) {
				t.Fatalf("%d: %#v", i, err)
			}
		} else if tr := trapped(t, err); tr.Value != i {
			t.Fatalf("%d: %#v", i, tr.Value)
		}
	}
}

func TestEachLeavesItsList(t *testing.T) { // R2
	n := 0
	l := []func(){func() { n++ }, throws(1), nil, func() { n += 10 }}
	got := trap.Each(l[:3])
	if len(l) != 4 || l[2] != nil {
		t.Fatalf("the list was changed")
	}
	l[3]()
	l[0]()
	if n != 12 {
		t.Errorf("the list's functions: %d", n)
	}
	if again := trap.Call(l[1]); again == nil || again == got[1] {
		t.Errorf("another call told the same memory: %p", again)
	}
	more := trap.Each(l[:3])
	clear(got[:cap(got)])
	if more[1] == nil || more[2] != error(api.ErrPanic) {
		t.Errorf("a list that was told before is another's: %v", more)
	}
}

func TestErrorsText(t *testing.T) { // P4.2
	for _, f := range raised() {
		if text := trap.Call(f).Error(); !strings.HasPrefix(text, "panic") {
			t.Errorf("%q", text)
		}
	}
	// The texts that are known are told.
	if text := trap.Call(throws("no room")).Error(); !strings.Contains(text, "no room") {
		t.Errorf("%q", text)
	}
	if text := trap.Call(throws(api.ErrFull)).Error(); !strings.Contains(text, api.ErrFull.Error()) {
		t.Errorf("%q", text)
	}
}

func TestErrorsTextNeedsNoOther(t *testing.T) { // P4.2, P1: a Trapped around itself, however
	tr := trapped(t, trap.Call(throws(1)))
	tr.Value = tr
	if !strings.HasPrefix(tr.Error(), "panic") || tr.Unwrap() != error(tr) {
		t.Errorf("%q", tr.Error())
	}
}

// thrown is what Throw panics with, and whether it does.
func thrown(v any) (got any, panicked bool) {
	panicked = true
	defer func() { got = recover() }()
	trap.Throw(v)
	panicked = false
	return
}

func TestThrow(t *testing.T) { // P4.2
	for _, e := range errs() {
		if got, panicked := thrown(e); !panicked || !same(got, e) {
			t.Errorf("Throw(%#v): %#v, %v", e, got, panicked)
		}
		holds(t, trap.Call(throws(e)), e, e)
	}
	for _, v := range others() {
		if got, panicked := thrown(v); !panicked || !same(got, v) {
			t.Errorf("Throw(%#v): %#v, %v", v, got, panicked)
		}
		holds(t, trap.Call(throws(v)), v, api.ErrPanic)
	}
	if _, panicked := thrown(nil); !panicked {
		t.Errorf("Throw(nil) came back")
	}
}

func TestTrappedInsideTrapped(t *testing.T) { // P4.1, P4.3
	var inner error
	outer := trap.Call(func() { inner = trap.Call(throws("in")) })
	if outer != nil {
		t.Errorf("the outer one: %v", outer)
	}
	holds(t, inner, "in", api.ErrPanic)

	outer = trap.Call(func() {
		inner = trap.Call(throws("in"))
		panic("out")
	})
	holds(t, inner, "in", api.ErrPanic)
	holds(t, outer, "out", api.ErrPanic)

	outer = trap.Call(func() { // thrown on, as what the inner one told
		inner = trap.Call(throws(api.ErrGone))
		trap.Throw(inner)
	})
	holds(t, outer, inner, inner)
	if !errors.Is(outer, api.ErrGone) {
		t.Errorf("%v", outer)
	}
}

func TestEachInsideGet(t *testing.T) { // P4.1
	l, err := trap.Get(func() []error {
		return trap.Each([]func(){throws(1), nil, func() {}, func() { trap.Throw(trap.Call(nil)) }})
	})
	if err != nil || len(l) != 4 || l[2] != nil || l[1] != error(api.ErrPanic) {
		t.Fatalf("%v, %v", l, err)
	}
	holds(t, l[0], 1, api.ErrPanic)
	holds(t, l[3], api.ErrPanic, api.ErrPanic)
}

func TestPanicInsideADeferredFunction(t *testing.T) { // P4.1, P4.3: the last one it is
	var order []string
	err := trap.Call(func() {
		defer func() { order = append(order, "first deferred"); panic(api.ErrGone) }()
		defer func() { order = append(order, "second deferred"); panic("between") }()
		order = append(order, "function")
		panic("begun")
	})
	holds(t, err, api.ErrGone, api.ErrGone)
	if want := []string{"function", "second deferred", "first deferred"}; !slices.Equal(order, want) {
		t.Errorf("%v", order)
	}
	got, err := trap.Get(func() int {
		defer func() { panic("text") }()
		return 9
	})
	if got != 0 {
		t.Errorf("%d beside an error", got)
	}
	holds(t, err, "text", api.ErrPanic)
}

func TestTrappedWhileOneIsUnderWay(t *testing.T) { // P4.1, P4.3: neither takes the other's
	for _, x := range []struct {
		name  string
		f     func()
		value any
	}{
		{"one that comes back", func() {}, nil},
		{"one that panics", throws("in"), "in"},
	} {
		var inner error
		outer := trap.Call(func() {
			defer func() { inner = trap.Call(x.f) }()
			panic(api.ErrFull)
		})
		holds(t, outer, api.ErrFull, api.ErrFull)
		if x.value == nil && inner != nil {
			t.Errorf("%s: %v", x.name, inner)
		}
		if x.value != nil {
			holds(t, inner, x.value, api.ErrPanic)
		}
	}
}

func TestCallAsADeferredFunction(t *testing.T) { // P4.1: it traps its own, not the one around it
	n := 0
	err := trap.Call(func() {
		defer trap.Call(func() { n++ })
		defer trap.Call(throws("in"))
		panic("out")
	})
	holds(t, err, "out", api.ErrPanic)
	if n != 1 {
		t.Errorf("called %d times", n)
	}
}

func TestDeferredFunctionsAreDone(t *testing.T) { // P4.3: ahead of what is told
	var done []int
	var deep func(n int)
	deep = func(n int) {
		defer func() { done = append(done, n) }()
		if n == 3 {
			panic(n)
		}
		deep(n + 1)
		done = append(done, -1)
	}
	holds(t, trap.Call(func() { deep(0) }), 3, api.ErrPanic)
	if want := []int{3, 2, 1, 0}; !slices.Equal(done, want) {
		t.Errorf("%v", done)
	}
}

func TestDeepNesting(t *testing.T) { // P1, P4.3
	const levels = 1 << 16
	var down func(n int) error
	down = func(n int) error {
		return trap.Call(func() {
			if n == 0 {
				panic(api.ErrState)
			}
			trap.Throw(down(n - 1))
		})
	}
	err := down(levels)
	if !strings.HasPrefix(err.Error(), "panic") || !errors.Is(err, api.ErrState) || errors.Is(err, api.ErrPanic) {
		t.Errorf("%.80s", err.Error())
	}
	n := 0
	for e := err; e != nil; e = errors.Unwrap(e) {
		n++
	}
	if n != levels+2 {
		t.Errorf("%d errors, one around the other", n)
	}
}

func TestNothingIsKept(t *testing.T) { // the chapter's opening, R2
	first := trap.Call(throws("first"))
	second := trap.Call(throws("first"))
	if first == second {
		t.Errorf("two calls told the same memory")
	}
	trapped(t, second).Value = "other"
	if err := trap.Call(func() {}); err != nil {
		t.Errorf("behind one that panicked: %v", err)
	}
	if got, err := trap.Get(func() int { return 3 }); got != 3 || err != nil {
		t.Errorf("behind one that panicked: %d, %v", got, err)
	}
	holds(t, first, "first", api.ErrPanic)
}

func TestValueIsNoCopy(t *testing.T) { // P4.1: that value
	l := []int{1, 2}
	tr := trapped(t, trap.Call(throws(l)))
	l[0] = 9
	if got, ok := tr.Value.([]int); !ok || got[0] != 9 {
		t.Errorf("%v", tr.Value)
	}
}
