package journal_test

import (
	"bytes"
	"slices"
	"testing"

	"garnet/api"
	"garnet/journal"
)

// roomy is a text's bytes with room behind them, where a careless append
// would write.
func roomy(s string) []byte {
	return append(bytes.Repeat([]byte{'#'}, 40)[:0], s...)
}

// untouched tells whether these bytes, and the room behind, are as roomy made
// them.
func untouched(b []byte, s string) bool {
	return string(b) == s && string(b[:cap(b)]) == string(roomy(s)[:40])
}

// plainReqs is three requests, two of them a group, in which no list is empty;
// the one that is the last stands first in their order.
func plainReqs() []api.Req {
	of := func(kind int, k string) api.Req {
		return api.Req{Client: 5, Seq: 7, Kind: kind, Key: []byte(k), Val: []byte("value" + k), Old: []byte("old" + k), To: []byte("to"), Limit: 3}
	}
	return []api.Req{of(swap, "key"), of(put, "key"), of(scan, "k")}
}

func plainSlots() []int { return []int{4, 2, 9} }

// plainOrder is the places of plainReqs in the batch's order.
func plainOrder() []int { return []int{2, 0, 1} }

// plainRes is an answer in which no list is empty.
func plainRes(n int) api.Res {
	at := string(rune('0' + n))
	rows := []api.Pair{{Key: []byte("a" + at), Val: []byte("11")}, {Key: []byte("b"), Val: []byte("22" + at)}}
	return api.Res{Code: n, Found: true, Val: []byte("was" + at), Rows: rows, Stamp: uint64(n)}
}

// handed is what is handed in by one Begin and two Apply, each list of it with
// room behind it, in which there is something, too.
type handed struct {
	slots []int
	reqs  []api.Req
	res   [][]api.Res
}

const spareSlot = 77

func hand() handed {
	slots := append(make([]int, 0, 8), plainSlots()...)
	for i := len(slots); i < cap(slots); i++ {
		slots[:cap(slots)][i] = spareSlot
	}
	reqs := make([]api.Req, 0, 6)
	for _, r := range plainReqs() {
		reqs = append(reqs, roomyReq(r))
	}
	for i := len(reqs); i < cap(reqs); i++ {
		reqs[:cap(reqs)][i] = spareReq()
	}
	h := handed{slots: slots, reqs: reqs}
	for i, n := range []int{1, 2} {
		l := make([]api.Res, 0, 4)
		for k := range n {
			l = append(l, roomyRes(plainRes(2*i+k)))
		}
		for i := len(l); i < cap(l); i++ {
			l[:cap(l)][i] = spareRes()
		}
		h.res = append(h.res, l)
	}
	return h
}

func spareReq() api.Req { return api.Req{Kind: get, Key: roomy("~"), Val: roomy("~")} }

func spareRes() api.Res { return api.Res{Code: 9, Val: roomy("~")} }

// roomyReq is the same request with room behind all of it.
func roomyReq(r api.Req) api.Req {
	r.Key, r.Val = roomy(string(r.Key)), roomy(string(r.Val))
	r.Old, r.To = roomy(string(r.Old)), roomy(string(r.To))
	return r
}

// roomyRes is the same answer with room behind all of it, where rows lie too.
func roomyRes(a api.Res) api.Res {
	rows := make([]api.Pair, 0, len(a.Rows)+2)
	for _, p := range a.Rows {
		rows = append(rows, api.Pair{Key: roomy(string(p.Key)), Val: roomy(string(p.Val))})
	}
	for i := len(rows); i < cap(rows); i++ {
		rows[:cap(rows)][i] = api.Pair{Key: roomy("~"), Val: roomy("~")}
	}
	a.Val, a.Rows = roomy(string(a.Val)), rows
	return a
}

func untouchedReq(r, from api.Req) bool {
	return sameReq(r, from) && untouched(r.Key, string(from.Key)) && untouched(r.Val, string(from.Val)) &&
		untouched(r.Old, string(from.Old)) && untouched(r.To, string(from.To))
}

func untouchedRes(a, from api.Res) bool {
	if !sameRes(a, from) || !untouched(a.Val, string(from.Val)) {
		return false
	}
	for i, p := range a.Rows[:cap(a.Rows)] {
		want := api.Pair{Key: []byte("~"), Val: []byte("~")}
		if i < len(a.Rows) {
			want = from.Rows[i]
		}
		if !untouched(p.Key, string(want.Key)) || !untouched(p.Val, string(want.Val)) {
			return false
		}
	}
	return true
}

// stays holds that all of it is as it was handed in.
func (h handed) stays(t *testing.T) {
	t.Helper()
	for i, n := range h.slots[:cap(h.slots)] {
		if i < 3 && n != plainSlots()[i] || i >= 3 && n != spareSlot {
			t.Fatalf("slot %d is %d", i, n)
		}
	}
	for i, r := range h.reqs[:cap(h.reqs)] {
		if i < 3 && !untouchedReq(r, plainReqs()[i]) || i >= 3 && !sameReq(r, spareReq()) {
			t.Fatalf("request %d is %+v", i, r)
		}
	}
	for i, l := range h.res {
		for k, a := range l[:cap(l)] {
			if k < i+1 && !untouchedRes(a, plainRes(2*i+k)) || k >= i+1 && !sameRes(a, spareRes()) {
				t.Fatalf("answer %d of Apply %d is %+v", k, i, a)
			}
		}
	}
}

// scribble writes over bytes, and over the room behind them.
func scribble(lists ...[]byte) {
	for _, b := range lists {
		b = b[:cap(b)]
		for i := range b {
			b[i] = '!'
		}
	}
}

// spoilReqs writes over all that requests reach: bytes, and the list of them.
func spoilReqs(l []api.Req) {
	l = l[:cap(l)]
	for i, r := range l {
		scribble(r.Key, r.Val, r.Old, r.To)
		l[i] = api.Req{Kind: -1, Key: []byte("!")}
	}
}

// spoilRes writes over all that an answer reaches: bytes, and the rows.
func spoilRes(a api.Res) {
	scribble(a.Val)
	rows := a.Rows[:cap(a.Rows)]
	for i := range rows {
		scribble(rows[i].Key, rows[i].Val)
		rows[i] = api.Pair{Key: []byte("!"), Val: []byte("!")}
	}
}

func spoilAll(l []api.Res) {
	l = l[:cap(l)]
	for i, a := range l {
		spoilRes(a)
		l[i] = api.Res{Code: -1, Val: []byte("!")}
	}
}

// steps is what is done with what is handed in, step by step, with a look in
// between.
func steps(t *testing.T, h handed, look func(j *journal.Journal, done int)) {
	t.Helper()
	j := newJournal(t)
	calls := []func() error{
		func() error { return j.Begin(h.slots, h.reqs) },
		func() error { return j.Apply(h.res[0]) },
		func() error { return j.Apply(h.res[1]) },
		j.Answered, j.Answered, j.Answered,
	}
	for i, call := range calls {
		if err := call(); err != nil {
			t.Fatalf("step %d: %v", i, err)
		}
		look(j, i)
	}
	if j.Open() {
		t.Fatal("it has a batch still")
	}
}

// tells holds what a journal tells behind such a step, told twice, all that is
// told written over in between.
func tells(t *testing.T, j *journal.Journal, done int) {
	t.Helper()
	for range 2 {
		l := j.Next()
		if want := nextBehind(done); !slices.EqualFunc(l, want, sameReq) {
			t.Fatalf("behind step %d: Next: %+v, not %+v", done, l, want)
		}
		spoilReqs(l)
		slot, res, is := j.Ready()
		wantSlot, wantRes, wantIs := readyBehind(done)
		if slot != wantSlot || !sameRes(res, wantRes) || is != wantIs {
			t.Fatalf("behind step %d: Ready: %d, %+v, %v, not %d, %+v, %v", done, slot, res, is, wantSlot, wantRes, wantIs)
		}
		spoilRes(res)
	}
}

func nextBehind(done int) []api.Req {
	l := plainReqs()
	switch done {
	case 0:
		return l[2:]
	case 1:
		return l[:2]
	}
	return nil
}

// readyBehind is what is ready behind a step: the first one from Apply on, each
// of the others behind one more Answered.
func readyBehind(done int) (int, api.Res, bool) {
	if done == 0 || done == 5 {
		return 0, api.Res{}, false
	}
	i := max(0, done-2)
	return plainSlots()[plainOrder()[i]], plainRes([]int{0, 2, 3}[i]), true
}

func TestWhatIsHandedInStays(t *testing.T) { // P17.4: at each call, and whatever comes behind it
	h := hand()
	h.stays(t)
	steps(t, h, func(j *journal.Journal, done int) {
		h.stays(t)
		tells(t, j, done) // which writes over what is told
		h.stays(t)
	})
}

func TestWhatIsHandedInIsNotKept(t *testing.T) { // P17.4, R2: it is written over, and the journal goes on
	h := hand()
	steps(t, h, func(j *journal.Journal, done int) {
		switch done {
		case 0:
			for i := range h.slots[:cap(h.slots)] {
				h.slots[:cap(h.slots)][i] = -99
			}
			spoilReqs(h.reqs)
		case 1, 2:
			spoilAll(h.res[done-1])
		}
		tells(t, j, done)
	})
}

func TestWhatWasToldStays(t *testing.T) { // P17.4: whatever comes behind it, in this batch and in the next one
	var next [][]api.Req
	var ready []api.Res
	h := hand()
	steps(t, h, func(j *journal.Journal, done int) {
		next = append(next, j.Next())
		_, res, _ := j.Ready()
		ready = append(ready, res)
		if done < 5 {
			return
		}
		l := slices.Repeat([]api.Req{{Kind: put, Key: []byte("other"), Val: []byte("xxxxxx"), Old: []byte("yyyy"), To: []byte("zz")}}, 3)
		if err := j.Begin([]int{1, 2, 3}, l); err != nil {
			t.Fatalf("Begin: %v", err)
		}
		spoilReqs(j.Next())
		if err := j.Apply([]api.Res{plainRes(7), plainRes(8), plainRes(9)}); err != nil {
			t.Fatalf("Apply: %v", err)
		}
		for j.Open() {
			_, res, _ := j.Ready()
			spoilRes(res)
			j.Answered()
		}
	})
	spoilReqs(h.reqs)
	spoilAll(h.res[0])
	spoilAll(h.res[1])
	for done := range 6 {
		if want := nextBehind(done); !slices.EqualFunc(next[done], want, sameReq) {
			t.Errorf("behind step %d Next had told %+v, not %+v", done, next[done], want)
		}
		if _, want, _ := readyBehind(done); !sameRes(ready[done], want) {
			t.Errorf("behind step %d Ready had told %+v, not %+v", done, ready[done], want)
		}
	}
}

func TestTwoLooksShareNothing(t *testing.T) { // P17.4: the one is written over, the other stays
	steps(t, hand(), func(j *journal.Journal, done int) {
		first, second := j.Next(), j.Next()
		_, a, _ := j.Ready()
		_, b, _ := j.Ready()
		spoilReqs(first)
		spoilRes(a)
		if want := nextBehind(done); !slices.EqualFunc(second, want, sameReq) {
			t.Errorf("behind step %d: Next: %+v", done, second)
		}
		if _, want, _ := readyBehind(done); !sameRes(b, want) {
			t.Errorf("behind step %d: Ready: %+v", done, b)
		}
	})
}

// listsOf is all bytes of requests and of an answer, list by list.
func listsOf(l []api.Req, a api.Res) [][]byte {
	var lists [][]byte
	for _, r := range l {
		lists = append(lists, r.Key, r.Val, r.Old, r.To)
	}
	lists = append(lists, a.Val)
	for _, p := range a.Rows {
		lists = append(lists, p.Key, p.Val)
	}
	return lists
}

// apart holds that no list that was told follows another one.
func apart(t *testing.T, lists, want [][]byte) {
	t.Helper()
	for i, b := range lists {
		scribble(b)
		for j := i + 1; j < len(lists); j++ {
			if !bytes.Equal(lists[j], want[j]) {
				t.Fatalf("list %d follows list %d: %q", j, i, lists[j])
			}
		}
	}
}

func TestNoTwoListsOfOneAnswerShareMemory(t *testing.T) { // P17.4: though what is handed in is of one memory
	b := []byte("ab")
	one := func(b []byte) []api.Req {
		r := api.Req{Client: 1, Kind: swap, Key: b, Val: b, Old: b[:1], To: b[1:]}
		return []api.Req{r, r, r}
	}
	answer := func(b []byte) api.Res {
		return api.Res{Val: b, Rows: []api.Pair{{Key: b, Val: b}, {Key: b[:1], Val: b[1:]}}}
	}
	j := newJournal(t)
	if err := j.Begin([]int{0, 1, 2}, one(b)); err != nil {
		t.Fatalf("Begin: %v", err)
	}
	if err := j.Apply([]api.Res{answer(b), answer(b), answer(b)}); err != nil {
		t.Fatalf("Apply: %v", err)
	}
	for range 3 {
		_, res, _ := j.Ready()
		if !sameRes(res, answer([]byte("ab"))) {
			t.Fatalf("Ready: %+v", res)
		}
		apart(t, listsOf(nil, res), listsOf(nil, answer([]byte("ab"))))
		j.Answered()
	}
	if err := j.Begin([]int{0, 1, 2}, one(b)); err != nil {
		t.Fatalf("Begin: %v", err)
	}
	scribble(b)
	l := j.Next()
	if !slices.EqualFunc(l, one([]byte("ab")), sameReq) {
		t.Fatalf("Next: %+v", l)
	}
	apart(t, listsOf(l, api.Res{}), listsOf(one([]byte("ab")), api.Res{}))
}

func TestOneAnswerForMany(t *testing.T) { // P17.4: each is told memory of its own
	j := newJournal(t)
	if err := j.Begin(rising(32), slices.Repeat(plainReqs()[1:2], 32)); err != nil {
		t.Fatalf("Begin: %v", err)
	}
	a := roomyRes(plainRes(1))
	if err := j.Apply(slices.Repeat([]api.Res{a}, 32)); err != nil {
		t.Fatalf("Apply: %v", err)
	}
	for i := range 32 {
		slot, res, is := j.Ready()
		if slot != i || !sameRes(res, plainRes(1)) || !is {
			t.Fatalf("Ready: %d, %+v, %v", slot, res, is)
		}
		spoilRes(res)
		j.Answered()
	}
	if !untouchedRes(a, plainRes(1)) {
		t.Errorf("what was handed in follows what was told: %+v", a)
	}
}

func TestWhatIsRefusedStays(t *testing.T) { // P17.4: beside each error; and nothing of it is kept
	eachWay(t, func(t *testing.T, b *both, w wayTo) {
		h := hand()
		h.reqs[1].Kind = 7
		for range 2 {
			want := error(api.ErrArg)
			if w.open {
				want = api.ErrState
			}
			if err := b.begin(h.slots, h.reqs); err != want {
				t.Fatalf("Begin: %v, not %v", err, want)
			}
			l := h.res[1]
			if n := len(b.j.Next()); n == 2 {
				l = h.res[0]
			}
			if err := b.apply(l); err == nil {
				t.Fatal("Apply went well")
			}
		}
		h.reqs[1].Kind = put
		h.stays(t)
		spoilReqs(h.reqs)
		spoilAll(h.res[0])
		spoilAll(h.res[1])
		b.agree()
		b.finish()
	})
}
