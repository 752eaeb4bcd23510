package journal_test

import (
	"bytes"
	"math"
	"runtime"
	"slices"
	"strings"
	"testing"

	"garnet/api"
	"garnet/journal"
)

// Keys of MaxKey bytes and of one more, values of MaxVal bytes and of one more.
const (
	longA = "aaaaaaaaaaaaaaaa"
	overA = longA + "a"
	fullV = "vvvvvvvvvvvvvvvvvvvvvvvvvvvvvvvv"
	overV = fullV + "v"
)

// keyed is a request of a kind and a key, that may be.
func keyed(kind int, k string) api.Req {
	r := api.Req{Kind: kind, Key: []byte(k)}
	if kind == scan {
		r.Limit = 5
	}
	return r
}

// badReqs is requests that may not be, each by one thing alone.
func badReqs() []api.Req {
	var l []api.Req
	for _, k := range kinds()[:5] {
		l = append(l, keyed(k, ""), keyed(k, overA))
	}
	for _, k := range []int{math.MinInt, -1, 0, 7, 1 << 32, math.MaxInt} {
		l = append(l, keyed(k, "k"))
	}
	for _, k := range kinds() {
		for _, n := range []int{-1, math.MinInt} {
			r := keyed(k, "k")
			r.Client = n
			q := keyed(k, "k")
			q.Seq = n
			l = append(l, r, q)
		}
		r := keyed(k, "k")
		r.Val = []byte(overV)
		q := keyed(k, "k")
		q.Old = []byte(overV)
		l = append(l, r, q)
	}
	for _, n := range []int{math.MinInt, -1, 0, 101, math.MaxInt} {
		r := keyed(scan, "k")
		r.Limit = n
		l = append(l, r)
	}
	for _, to := range []string{"a", "j", "k", overA} {
		r := keyed(scan, "k")
		r.To = []byte(to)
		l = append(l, r)
	}
	return append(l, keyed(scan, overA), api.Req{})
}

// reply is an answer in which nothing is zero.
func reply(n int) api.Res {
	rows := []api.Pair{{Key: []byte("a"), Val: []byte{byte(n)}}, {Key: []byte("b")}}
	return api.Res{Code: n, Found: true, Val: []byte{'v', byte(n)}, Rows: rows, Stamp: uint64(n)}
}

// replies is so many unlike answers.
func replies(n int) []api.Res {
	var l []api.Res
	for i := range n {
		l = append(l, reply(1+i))
	}
	return l
}

// rising is the numbers from 0 on, so many.
func rising(n int) []int {
	var l []int
	for i := range n {
		l = append(l, i)
	}
	return l
}

// named is so many requests: each of a key of its own, that rise.
func named(n int) []api.Req {
	var l []api.Req
	for i := range n {
		l = append(l, keyed(1+i%5, string(rune('A'+i))))
	}
	return l
}

// finish applies and answers what is left.
func (b *both) finish() {
	b.t.Helper()
	for b.j.Open() {
		if n := len(b.m.next()); n > 0 {
			b.must(b.apply(replies(n)))
		}
		b.must(b.answered())
	}
}

// wayTo is calls that bring a journal to a state, of three groups: two of key
// a, one of b, a scan from a on.
type wayTo struct {
	name  string
	calls string
	open  bool
}

func waysTo() []wayTo {
	return []wayTo{
		{"new", "", false},
		{"begun", "b", true},
		{"one group is applied", "bn", true},
		{"one group is applied, and one of it answered", "bnd", true},
		{"one group is applied and answered", "bndd", true},
		{"two groups are applied", "bnn", true},
		{"two groups are applied, and one is answered", "bndnd", true},
		{"all are applied", "bnnn", true},
		{"all are applied, and one is answered", "bnnnd", true},
		{"all are applied, and all but one answered", "bnnnddd", true},
		{"empty again", "bnnndddd", false},
		{"begun anew", "bnnnddddb", true},
		{"begun anew, and one group is applied", "bnddndndbn", true},
		{"empty again, twice", "bnddndndbnnndddd", false},
	}
}

// small is the slots and requests of these ways.
func small() ([]int, []api.Req) {
	return []int{8, 2, 30, 4}, []api.Req{keyed(put, "b"), keyed(scan, "a"), keyed(put, "a"), keyed(get, "a")}
}

func eachWay(t *testing.T, f func(t *testing.T, b *both, w wayTo)) {
	for _, w := range waysTo() {
		t.Run(w.name, func(t *testing.T) {
			slots, l := small()
			b := replay(t, []byte(w.calls), slots, l)
			if b.j.Open() != w.open {
				t.Fatalf("Open: %v", b.j.Open())
			}
			f(t, b, w)
		})
	}
}

func TestNumbers(t *testing.T) { // DOC.md, Words
	if api.MaxBatch != 32 || api.MaxKey != len(longA) || api.MaxVal != len(fullV) || api.MaxRows != 100 {
		t.Error("there are other limits")
	}
	if api.ErrArg != 1 || api.ErrLarge != 2 || api.ErrState != 10 {
		t.Error("errors have other numbers")
	}
	for i, kind := range []int{api.OpGet, api.OpPut, api.OpDelete, api.OpAbsent, api.OpSwap, api.OpScan} {
		if kind != kinds()[i] {
			t.Errorf("kind %d is %d", kinds()[i], kind)
		}
	}
}

func TestExample(t *testing.T) { // the chapter's: empty again, and it may be begun anew, with the same slot, too
	for _, kind := range kinds() {
		for _, slot := range []int{0, 5, 31} {
			j := newJournal(t)
			for range 3 {
				r := keyed(kind, "k")
				if err := j.Begin([]int{slot}, []api.Req{r}); err != nil || !j.Open() {
					t.Fatalf("Begin: %v", err)
				}
				if l := j.Next(); len(l) != 1 || !sameReq(l[0], r) {
					t.Fatalf("Next: %+v", l)
				}
				if err := j.Apply(replies(1)); err != nil || !j.Open() {
					t.Fatalf("Apply: %v", err)
				}
				if at, res, is := j.Ready(); at != slot || !sameRes(res, reply(1)) || !is {
					t.Fatalf("Ready: %d, %+v, %v", at, res, is)
				}
				if err := j.Answered(); err != nil || j.Open() {
					t.Fatalf("Answered: %v", err)
				}
			}
		}
	}
}

// isEmpty holds all that a journal without a batch tells.
func isEmpty(t *testing.T, j *journal.Journal) {
	t.Helper()
	if j.Open() {
		t.Error("Open: true")
	}
	if apply, answer := j.Left(); apply != 0 || answer != 0 {
		t.Errorf("Left: %d, %d", apply, answer)
	}
	if l := j.Next(); len(l) != 0 {
		t.Errorf("Next: %+v", l)
	}
	if slot, res, is := j.Ready(); slot != 0 || !sameRes(res, api.Res{}) || is {
		t.Errorf("Ready: %d, %+v, %v", slot, res, is)
	}
	for n := range 34 {
		if err := j.Apply(replies(n)); err != api.ErrState {
			t.Errorf("Apply of %d: %v", n, err)
		}
	}
	if err := j.Answered(); err != api.ErrState {
		t.Errorf("Answered: %v", err)
	}
}

func TestNew(t *testing.T) { // P17.1: empty; P17.2, P17.3: there is none to be applied or answered
	j := newJournal(t)
	for range 3 {
		isEmpty(t, j)
	}
	if err := j.Begin([]int{3}, named(1)); err != nil {
		t.Errorf("Begin behind what was refused: %v", err)
	}
}

func TestEmptyAgain(t *testing.T) { // P17.3: behind the last Answered it is as a new one, whatever it had
	for _, n := range []int{1, 2, 31, 32} {
		b := pairUp(t)
		for range 3 {
			b.must(b.begin(rising(n), named(n)))
			b.finish()
			isEmpty(t, b.j)
		}
	}
}

func TestBatchesOfEachLength(t *testing.T) { // P17.1: 1 to MaxBatch; as many groups as requests, one, and some
	for n := 1; n <= 32; n++ {
		for keys := 1; keys <= n; keys++ {
			var l []api.Req
			for i := range n {
				l = append(l, keyed(1+i%5, string(rune('A'+(i*7)%keys))))
			}
			b := pairUp(t)
			b.must(b.begin(rising(n), l))
			groups := 0
			for len(b.j.Next()) > 0 {
				b.must(b.apply(replies(len(b.j.Next()))))
				groups++
			}
			if apply, answer := b.j.Left(); apply != 0 || answer != n {
				t.Fatalf("%d requests: Left: %d, %d", n, apply, answer)
			}
			for range n {
				b.must(b.answered())
			}
			if want := distinct(l); groups != want {
				t.Fatalf("%d requests of %d keys are %d groups", n, want, groups)
			}
		}
	}
}

// distinct is how many unlike keys there are.
func distinct(l []api.Req) int {
	seen := map[string]int{}
	for _, r := range l {
		seen[string(r.Key)]++
	}
	return len(seen)
}

func TestBatchesOfScans(t *testing.T) { // P17.2: each stands alone, alike ones, too
	for n := 1; n <= 32; n++ {
		b := pairUp(t)
		b.must(b.begin(rising(n), slices.Repeat([]api.Req{keyed(scan, "a")}, n)))
		for i := range n {
			if l := b.j.Next(); len(l) != 1 {
				t.Fatalf("scan %d of %d: Next: %+v", i, n, l)
			}
			b.must(b.apply(replies(1)))
		}
		b.finish()
	}
}

func TestWhereAScanStands(t *testing.T) { // P17.2: behind those of its key, ahead of greater ones
	b := pairUp(t)
	l := []api.Req{keyed(scan, "b"), keyed(put, "b"), keyed(scan, "b"), keyed(put, "a"), keyed(del, "b"), keyed(get, "c"), keyed(scan, "ab"), keyed(scan, "")}
	for i := range l {
		l[i].Seq = i
	}
	b.must(b.begin([]int{10, 11, 12, 13, 14, 15, 16, 17}, l))
	for _, want := range [][]int{{7}, {3}, {6}, {1, 4}, {0}, {2}, {5}} {
		var got []int
		for _, r := range b.j.Next() {
			got = append(got, r.Seq)
		}
		if !slices.Equal(got, want) {
			t.Fatalf("Next: %v, not %v", got, want)
		}
		b.must(b.apply(replies(len(got))))
		for i, at := range want {
			if slot, res, is := b.j.Ready(); slot != 10+at || !sameRes(res, reply(1+i)) || !is {
				t.Fatalf("Ready: %d, %+v, %v, not of slot %d", slot, res, is, 10+at)
			}
			b.must(b.answered())
		}
	}
}

func TestReadyWhereTheNextGroupIsNotApplied(t *testing.T) { // P17.3: the first one's, in order, and then none
	slots, l := small()
	b := pairUp(t)
	b.must(b.begin(slots, l))
	b.must(b.apply(replies(2)))
	for i, want := range []int{30, 4} {
		if slot, res, is := b.j.Ready(); slot != want || !sameRes(res, reply(1+i)) || !is {
			t.Fatalf("Ready: %d, %+v, %v", slot, res, is)
		}
		b.must(b.answered())
	}
	if slot, res, is := b.j.Ready(); slot != 0 || !sameRes(res, api.Res{}) || is {
		t.Errorf("Ready: %d, %+v, %v", slot, res, is)
	}
	if err := b.answered(); err != api.ErrState || !b.j.Open() {
		t.Errorf("Answered: %v", err)
	}
	if apply, answer := b.j.Left(); apply != 2 || answer != 2 {
		t.Errorf("Left: %d, %d", apply, answer)
	}
}

func TestBeginOfAnySlots(t *testing.T) { // P17.1: only twice they may not be
	slots := []int{math.MinInt, -1 << 32, -33, -1, 0, 31, 32, 33, 1 << 32, 1<<32 + 1, math.MaxInt - 1, math.MaxInt}
	for i := range slots {
		b := pairUp(t)
		b.must(b.begin(slots[i:i+1], named(1)))
		b.finish()
		turned := append(slices.Clone(slots[i:]), slots[:i]...)
		b.must(b.begin(turned, named(len(slots))))
		b.finish()
	}
}

func TestBeginInEachState(t *testing.T) { // P17.1: ErrState while it has a batch, ahead of all else
	eachWay(t, func(t *testing.T, b *both, w wayTo) {
		for _, x := range wrongBatches() {
			want := x.want
			if w.open {
				want = api.ErrState
			}
			if err := b.begin(x.slots, x.l); err != want {
				t.Errorf("%s: %v, not %v", x.name, err, want)
			}
		}
		if err := b.begin([]int{1}, named(1)); (err == nil) == w.open {
			t.Errorf("Begin of one: %v", err)
		}
		b.finish()
	})
}

// wrong is what may not be begun.
type wrong struct {
	name  string
	slots []int
	l     []api.Req
	want  error
}

func wrongBatches() []wrong {
	bad := keyed(0, "k")
	badAt := func(n, i int) []api.Req {
		l := named(n)
		l[i] = bad
		return l
	}
	twice := func(n, i, k int) []int {
		l := rising(n)
		l[i] = l[k]
		return l
	}
	return []wrong{
		{"none", nil, nil, api.ErrArg},
		{"empty ones", []int{}, []api.Req{}, api.ErrArg},
		{"slots, and no request", rising(1), nil, api.ErrArg},
		{"MaxBatch slots, and no request", rising(32), nil, api.ErrArg},
		{"a request, and no slot", nil, named(1), api.ErrArg},
		{"MaxBatch requests, and no slot", nil, named(32), api.ErrArg},
		{"fewer slots", rising(2), named(3), api.ErrArg},
		{"more slots", rising(4), named(3), api.ErrArg},
		{"MaxBatch requests, one slot fewer", rising(31), named(32), api.ErrArg},
		{"MaxBatch requests, one slot more", rising(33), named(32), api.ErrArg},
		{"MaxBatch and one requests, MaxBatch slots", rising(32), named(33), api.ErrArg},
		{"MaxBatch and one requests, a slot more", rising(34), named(33), api.ErrArg},
		{"a slot twice of two", []int{3, 3}, named(2), api.ErrArg},
		{"a slot twice, side by side", []int{1, 2, 2, 0}, named(4), api.ErrArg},
		{"a slot twice, first and last", []int{5, 7, 1, 5}, named(4), api.ErrArg},
		{"a slot below 0 twice", []int{-5, 7, -5, 5}, named(4), api.ErrArg},
		{"a slot always", []int{6, 6, 6, 6}, named(4), api.ErrArg},
		{"a slot twice of MaxBatch, first and last", twice(32, 0, 31), named(32), api.ErrArg},
		{"a slot twice of MaxBatch and one", twice(33, 0, 32), named(33), api.ErrArg},
		{"one that may not be, alone", rising(1), badAt(1, 0), api.ErrArg},
		{"one that may not be, first", rising(5), badAt(5, 0), api.ErrArg},
		{"one that may not be, in the middle", rising(5), badAt(5, 2), api.ErrArg},
		{"one that may not be, last", rising(5), badAt(5, 4), api.ErrArg},
		{"one that may not be, last of MaxBatch", rising(32), badAt(32, 31), api.ErrArg},
		{"one that may not be, first of MaxBatch and one", rising(33), badAt(33, 0), api.ErrArg},
		{"one that may not be, last of MaxBatch and one", rising(33), badAt(33, 32), api.ErrArg},
		{"one that may not be, last of many", rising(500), badAt(500, 499), api.ErrArg},
		{"MaxBatch and one", rising(33), named(33), api.ErrLarge},
		{"MaxBatch and one of one key", rising(33), slices.Repeat(named(1), 33), api.ErrLarge},
		{"MaxBatch and two", rising(34), named(34), api.ErrLarge},
		{"many", rising(500), slices.Repeat(named(1), 500), api.ErrLarge},
	}
}

func TestBeginWrong(t *testing.T) { // P17.1: each error itself, ErrArg ahead of ErrLarge; and the journal is empty
	for _, x := range wrongBatches() {
		j := newJournal(t)
		for range 2 {
			if err := j.Begin(x.slots, x.l); err != x.want {
				t.Errorf("%s: %v, not %v", x.name, err, x.want)
			}
			isEmpty(t, j)
		}
	}
}

func TestBeginOfASlotTwice(t *testing.T) { // P17.1: each two places of each number of requests
	for n := 2; n <= 33; n++ {
		for i := range n {
			for k := range i {
				slots := rising(n)
				slots[k] = slots[i]
				j := newJournal(t)
				if err := j.Begin(slots, named(n)); err != api.ErrArg || j.Open() {
					t.Fatalf("%v: %v", slots, err)
				}
			}
		}
	}
}

func TestBeginOfWhatMayNotBe(t *testing.T) { // P17.1: each kind of it, at each place
	for _, bad := range badReqs() {
		for _, n := range []int{1, 2, 3, 32, 33} {
			for i := range n {
				l := named(n)
				l[i] = bad
				j := newJournal(t)
				if err := j.Begin(rising(n), l); err != api.ErrArg || j.Open() {
					t.Fatalf("%+v at %d of %d: %v", bad, i, n, err)
				}
			}
		}
	}
}

func TestBeginOfEdgesThatMayBe(t *testing.T) { // P17.1: zeros, and the greatest; each is told whole
	full := func(kind int) api.Req {
		return api.Req{Client: math.MaxInt, Seq: math.MaxInt, Kind: kind, Key: []byte(longA), Val: []byte(fullV), Old: []byte(fullV), To: []byte("b"), Limit: 100}
	}
	var l []api.Req
	for _, kind := range kinds() {
		l = append(l, full(kind), keyed(kind, "\x00"), keyed(kind, "\xff"))
	}
	odd := keyed(get, "k") // neither is asked of a get
	odd.To, odd.Limit = []byte(strings.Repeat("z", 5000)), math.MinInt
	l = append(l, keyed(scan, ""), odd)
	for _, r := range l {
		b := pairUp(t)
		b.must(b.begin(rising(1), []api.Req{r}))
		b.finish()
	}
	b := pairUp(t)
	b.must(b.begin(rising(len(l)), l))
	b.finish()
}

func TestBeginOfOneRequestManyTimes(t *testing.T) { // P17.1: only slots may not be twice
	b := pairUp(t)
	b.must(b.begin(rising(32), slices.Repeat(named(1), 32)))
	if l := b.j.Next(); len(l) != 32 {
		t.Fatalf("Next: %d", len(l))
	}
	b.must(b.apply(replies(32)))
	b.finish()
}

func TestApplyInEachState(t *testing.T) { // P17.2: ErrState where there is none, ahead of ErrArg; ErrArg of any other number
	eachWay(t, func(t *testing.T, b *both, w wayTo) {
		for _, k := range []int{0, 1, 2, 3, 4, 5, 31, 32, 33, 1000} {
			n := len(b.j.Next())
			err := b.apply(make([]api.Res, k))
			if n == 0 && err != api.ErrState || n > 0 && k != n && err != api.ErrArg || n > 0 && k == n && err != nil {
				t.Errorf("Apply of %d, where %d are next: %v", k, n, err)
			}
		}
		b.finish()
	})
}

func TestApplyOfAnotherNumber(t *testing.T) { // P17.2: none, one too few, one too many; and nothing has turned
	for n := 1; n <= 32; n++ {
		b := pairUp(t)
		b.must(b.begin(rising(n), slices.Repeat(named(1), n)))
		for _, k := range []int{0, n - 1, n + 1, 2 * n, 64} {
			if err := b.apply(replies(k)); err != api.ErrArg {
				t.Fatalf("Apply of %d, not %d: %v", k, n, err)
			}
			if err := b.j.Apply(make([]api.Res, k)); err != api.ErrArg {
				t.Fatalf("Apply of %d, not %d: %v", k, n, err)
			}
		}
		if _, _, is := b.j.Ready(); is {
			t.Fatal("Ready: true")
		}
		b.must(b.apply(replies(n)))
		b.finish()
	}
}

func TestApplyOfAnyAnswers(t *testing.T) { // P17.2: they are told whole, whatever they are
	long := bytes.Repeat([]byte("x"), 5000)
	for _, a := range []api.Res{
		{}, {Code: math.MinInt}, {Code: math.MaxInt}, {Code: -1}, {Code: 12}, {Found: true}, {Stamp: math.MaxUint64},
		{Val: long}, {Val: []byte{}}, {Val: []byte{0}}, {Rows: []api.Pair{}}, {Rows: []api.Pair{{}}},
		{Rows: []api.Pair{{Key: long, Val: long}, {Key: []byte("b")}, {Key: []byte("a")}, {Key: []byte("a")}}},
		{Rows: slices.Repeat([]api.Pair{{Key: []byte("k"), Val: []byte("v")}}, 1000)}, reply(7),
	} {
		for _, kind := range kinds() {
			b := pairUp(t)
			b.must(b.begin([]int{9}, []api.Req{keyed(kind, "k")}))
			b.must(b.apply([]api.Res{a}))
			if slot, res, is := b.j.Ready(); slot != 9 || !sameRes(res, a) || !is {
				t.Errorf("Ready: %d, %+v, %v, not %+v", slot, res, is, a)
			}
			b.finish()
		}
	}
}

func TestAllApplyAheadOfAnswered(t *testing.T) { // P17.2, P17.3: and Answered behind each Apply; as many as can be, and one more
	for _, eager := range []bool{true, false} {
		b := pairUp(t)
		b.must(b.begin(rising(32), named(32)))
		for range 32 {
			b.must(b.apply(replies(1)))
			if !eager {
				b.must(b.answered())
				if err := b.answered(); err != api.ErrState {
					t.Fatalf("Answered: %v", err)
				}
			}
		}
		if err := b.apply(replies(1)); err != api.ErrState {
			t.Fatalf("Apply: %v", err)
		}
		b.finish()
		isEmpty(t, b.j)
	}
}

func TestAnsweredInEachState(t *testing.T) { // P17.3: ErrState where there is none; twice, too
	eachWay(t, func(t *testing.T, b *both, w wayTo) {
		for range 6 {
			_, _, is := b.j.Ready()
			if err := b.answered(); is != (err == nil) || !is && err != api.ErrState {
				t.Errorf("Answered: %v, and Ready was %v", err, is)
			}
		}
		b.finish()
	})
}

func TestLeft(t *testing.T) { // P17.1: how many aren't applied, and how many aren't answered
	eachWay(t, func(t *testing.T, b *both, w wayTo) {
		calls := w.calls[strings.LastIndex(w.calls, "b")+1:]
		apply, answer := 0, 0
		if w.open {
			apply = []int{4, 2, 1, 0}[strings.Count(calls, "n")]
			answer = 4 - strings.Count(calls, "d")
		}
		if a, b := b.j.Left(); a != apply || b != answer {
			t.Errorf("Left: %d, %d, not %d, %d", a, b, apply, answer)
		}
	})
}

func TestBeginWhereAllIsAppliedAndNotAnswered(t *testing.T) { // P17.1, P17.3: it has its batch up to the last one
	b := pairUp(t)
	b.must(b.begin(rising(3), named(3)))
	for range 3 {
		b.must(b.apply(replies(1)))
	}
	for range 3 {
		if err := b.begin([]int{20}, named(1)); err != api.ErrState || !b.j.Open() {
			t.Fatalf("Begin: %v", err)
		}
		b.must(b.answered())
	}
	b.must(b.begin([]int{2, 1, 0}, named(3)))
	b.finish()
}

func TestNothingOfWhatIsDoneWithIsKept(t *testing.T) { // P17.3: no request that is applied, and no answer that is answered
	const size = 1 << 20
	heap := func() uint64 {
		var s runtime.MemStats
		runtime.GC()
		runtime.ReadMemStats(&s)
		return s.HeapAlloc
	}
	for great := range 2 { // whose answer, and whose request, is a great one
		var l []*journal.Journal
		was := heap()
		for range 64 {
			j := newJournal(t)
			reqs := []api.Req{keyed(get, "a"), keyed(get, "b")}
			reqs[great].To = make([]byte, size) // it plays no part in a get
			j.Begin([]int{0, 1}, reqs)
			for i := range 2 {
				res := make([]api.Res, 1)
				if i == great {
					res[0].Val = make([]byte, size)
				}
				j.Apply(res)
			}
			for range 1 + great { // the other one's is answered ahead of it, or left
				j.Answered()
			}
			l = append(l, j)
		}
		if now := heap(); now > was+16*size {
			t.Errorf("request %d: %d bytes are kept", great, now-was)
		}
		for _, j := range l {
			if apply, answer := j.Left(); apply != 0 || answer != 1-great {
				t.Fatalf("Left: %d, %d", apply, answer)
			}
		}
	}
}
