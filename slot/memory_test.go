package slot_test

import (
	"bytes"
	"testing"

	"garnet/api"
)

// roomy is a text's bytes with room behind them, where a careless append
// would write.
func roomy(s string) []byte {
	return append(bytes.Repeat([]byte{'#'}, 40)[:0], s...)
}

// untouched tells whether these bytes, and the room behind, are as roomy made
// them.
func untouched(b []byte, s string) bool {
	return string(b) == s && string(b[:cap(b)]) == string(roomy(s)[:40])
}

// plainReq is a request in which no list is empty.
func plainReq(client int) api.Req {
	return api.Req{Client: client, Seq: 7, Kind: swap, Key: []byte("key"), Val: []byte("value"), Old: []byte("old"), To: []byte("to"), Limit: 3}
}

// plainRes is an answer in which no list is empty.
func plainRes() api.Res {
	rows := []api.Pair{{Key: []byte("a"), Val: []byte("11")}, {Key: []byte("b"), Val: []byte("222")}}
	return api.Res{Code: 10, Found: true, Val: []byte("was"), Rows: rows, Stamp: 9}
}

// roomyReq is the same request with room behind all of it.
func roomyReq(r api.Req) api.Req {
	r.Key, r.Val = roomy(string(r.Key)), roomy(string(r.Val))
	r.Old, r.To = roomy(string(r.Old)), roomy(string(r.To))
	return r
}

func untouchedReq(r, from api.Req) bool {
	return sameReq(r, from) && untouched(r.Key, string(from.Key)) && untouched(r.Val, string(from.Val)) &&
		untouched(r.Old, string(from.Old)) && untouched(r.To, string(from.To))
}

// roomyRes is the same answer with room behind all of it, where rows lie too.
func roomyRes(a api.Res) api.Res {
	rows := make([]api.Pair, 0, len(a.Rows)+2)
	for _, p := range a.Rows {
		rows = append(rows, api.Pair{Key: roomy(string(p.Key)), Val: roomy(string(p.Val))})
	}
	for i := len(rows); i < cap(rows); i++ {
		rows[:cap(rows)][i] = api.Pair{Key: roomy("~"), Val: roomy("~")}
	}
	a.Val, a.Rows = roomy(string(a.Val)), rows
	return a
}

func untouchedRes(a, from api.Res) bool {
	if !sameRes(a, from) || !untouched(a.Val, string(from.Val)) {
		return false
	}
	for i, p := range a.Rows[:cap(a.Rows)] {
		want := api.Pair{Key: []byte("~"), Val: []byte("~")}
		if i < len(a.Rows) {
			want = from.Rows[i]
		}
		if !untouched(p.Key, string(want.Key)) || !untouched(p.Val, string(want.Val)) {
			return false
		}
	}
	return true
}

// scribble writes over bytes, and over the room behind them.
func scribble(lists ...[]byte) {
	for _, b := range lists {
		b = b[:cap(b)]
		for i := range b {
			b[i] = '!'
		}
	}
}

func spoilReq(r api.Req) { scribble(r.Key, r.Val, r.Old, r.To) }

// spoilRes writes over all that an answer reaches: bytes, and the rows.
func spoilRes(a api.Res) {
	scribble(a.Val)
	rows := a.Rows[:cap(a.Rows)]
	for i := range rows {
		scribble(rows[i].Key, rows[i].Val)
		rows[i] = api.Pair{Key: []byte("!"), Val: []byte("!")}
	}
}

// listsOf is all bytes of a request, or of an answer, list by list.
func listsOf(r api.Req, a api.Res) [][]byte {
	lists := [][]byte{r.Key, r.Val, r.Old, r.To, a.Val}
	for _, p := range a.Rows {
		lists = append(lists, p.Key, p.Val)
	}
	return lists
}

// apart holds that no list that was told follows another one.
func apart(t *testing.T, lists, want [][]byte) {
	t.Helper()
	for i, b := range lists {
		scribble(b)
		for j := i + 1; j < len(lists); j++ {
			if !bytes.Equal(lists[j], want[j]) {
				t.Fatalf("list %d follows list %d: %q", j, i, lists[j])
			}
		}
	}
}

func TestWhatIsPostedStays(t *testing.T) { // P14.4: neither by its posting nor by what is done behind it
	for _, w := range ways() {
		b := pairUp(t, 1)
		r := roomyReq(plainReq(5))
		b.walk(w, 0, r)
		if !untouchedReq(r, plainReq(5)) {
			t.Errorf("%s: %+v", w.name, r)
		}
	}
}

func TestWhatIsPostedIsNotKept(t *testing.T) { // P14.4, R2: what is written to it behind that isn't told
	for _, w := range ways() {
		b := pairUp(t, 1)
		r := roomyReq(plainReq(5))
		b.walk(w, 0, r)
		spoilReq(r)
		if got, err := b.s.Req(0); w.state != empty && (err != nil || !sameReq(got, plainReq(5))) {
			t.Errorf("%s: Req: %+v, %v", w.name, got, err)
		}
		if res, err := b.s.Take(0, 5, 7); w.state == done && (err != nil || !sameRes(res, reply())) {
			t.Errorf("%s: Take: %+v, %v", w.name, res, err)
		}
	}
}

func TestWhatIsRefusedStays(t *testing.T) { // P14.4: beside each error
	wrong := plainReq(5)
	wrong.Kind = 7
	for _, x := range []struct {
		req  api.Req
		want error
	}{{wrong, api.ErrArg}, {plainReq(1), api.ErrTwice}, {plainReq(5), api.ErrFull}} {
		s := slots(t, 2)
		s.Post(by(0, 7))
		s.Post(by(1, 7))
		r := roomyReq(x.req)
		if _, err := s.Post(r); err != x.want || !untouchedReq(r, x.req) {
			t.Errorf("%v, not %v: %+v", err, x.want, r)
		}
		a := roomyRes(plainRes())
		for i, want := range map[int]error{-1: api.ErrRange, 0: api.ErrState, 2: api.ErrRange} {
			if err := s.Answer(i, a); err != want || !untouchedRes(a, plainRes()) {
				t.Errorf("%v, not %v: %+v", err, want, a)
			}
		}
	}
}

func TestWhatIsAnsweredStays(t *testing.T) { // P14.4
	s := slots(t, 2)
	a := roomyRes(plainRes())
	s.Post(by(3, 7))
	s.Claim(0)
	s.Answer(0, a)
	if !untouchedRes(a, plainRes()) {
		t.Errorf("behind Answer: %+v", a)
	}
	res, _ := s.Take(0, 3, 7)
	if !untouchedRes(a, plainRes()) {
		t.Errorf("behind Take: %+v", a)
	}
	spoilRes(res)
	if !untouchedRes(a, plainRes()) {
		t.Errorf("it follows what is told: %+v", a)
	}
}

func TestWhatIsAnsweredIsNotKept(t *testing.T) { // P14.4, R2
	s := slots(t, 2)
	a := roomyRes(plainRes())
	s.Post(by(3, 7))
	s.Claim(0)
	s.Answer(0, a)
	spoilRes(a)
	if res, err := s.Take(0, 3, 7); err != nil || !sameRes(res, plainRes()) {
		t.Errorf("what is told follows it: %+v, %v", res, err)
	}
}

func TestWhatWasTakenDoesNotFollowWhatWasAnswered(t *testing.T) { // P14.4, R2
	s := slots(t, 2)
	a := roomyRes(plainRes())
	s.Post(by(3, 7))
	s.Claim(0)
	s.Answer(0, a)
	res, err := s.Take(0, 3, 7)
	spoilRes(a)
	if err != nil || !sameRes(res, plainRes()) {
		t.Errorf("%+v, %v", res, err)
	}
}

func TestASecondAnswerLeavesTheFirst(t *testing.T) { // P14.3, P14.4: nothing of what is refused is kept
	s := slots(t, 1)
	s.Post(by(3, 7))
	s.Answer(0, api.Res{Code: 1, Rows: plainRes().Rows}) // not claimed yet
	s.Claim(0)
	s.Answer(0, plainRes())
	if err := s.Answer(0, api.Res{Code: 1, Val: []byte("other")}); err != api.ErrState {
		t.Errorf("Answer: %v", err)
	}
	if res, err := s.Take(0, 3, 7); err != nil || !sameRes(res, plainRes()) {
		t.Errorf("Take: %+v, %v", res, err)
	}
}

func TestReqTellsNewMemory(t *testing.T) { // P14.4: write into it, and ask again; in each state
	for _, w := range ways() {
		if w.state == empty {
			continue
		}
		b := pairUp(t, 1)
		r := roomyReq(plainReq(5))
		b.walk(w, 0, r)
		first, _ := b.s.Req(0)
		second, _ := b.s.Req(0)
		spoilReq(first)
		if !sameReq(second, plainReq(5)) || !untouchedReq(r, plainReq(5)) {
			t.Errorf("%s: others follow what is told: %+v, %+v", w.name, second, r)
		}
		if got, err := b.s.Req(0); err != nil || !sameReq(got, plainReq(5)) {
			t.Errorf("%s: Req follows what was told: %+v, %v", w.name, got, err)
		}
	}
}

func TestWhatReqToldStays(t *testing.T) { // P14.4: whatever comes behind it
	s := slots(t, 1)
	s.Post(plainReq(5))
	r, _ := s.Req(0)
	s.Redirect(0)
	s.Take(0, 5, 7)
	s.Post(api.Req{Client: 5, Seq: 8, Kind: swap, Key: []byte("kkk"), Val: []byte("vvvvv"), Old: []byte("ooo"), To: []byte("tt")})
	other, _ := s.Req(0)
	spoilReq(other)
	if !sameReq(r, plainReq(5)) {
		t.Errorf("%+v", r)
	}
}

func TestWhatTakeToldStays(t *testing.T) { // P14.4: whatever comes behind it; and others don't follow it
	s := slots(t, 2)
	for i := range 2 {
		s.Post(plainReq(i))
		s.Claim(i)
		s.Answer(i, plainRes())
	}
	res, _ := s.Take(0, 0, 7)
	s.Post(plainReq(0))
	s.Claim(0)
	s.Answer(0, api.Res{Val: []byte("xxx"), Rows: []api.Pair{{Key: []byte("y"), Val: []byte("zz")}, {}}})
	if !sameRes(res, plainRes()) {
		t.Errorf("it follows a new answer: %+v", res)
	}
	spoilRes(res)
	if other, err := s.Take(1, 1, 7); err != nil || !sameRes(other, plainRes()) {
		t.Errorf("another one's follows it: %+v, %v", other, err)
	}
	want := api.Res{Val: []byte("xxx"), Rows: []api.Pair{{Key: []byte("y"), Val: []byte("zz")}, {}}}
	if got, err := s.Take(0, 0, 7); err != nil || !sameRes(got, want) {
		t.Errorf("the slot's new answer follows it: %+v, %v", got, err)
	}
}

func TestNoTwoListsOfOneAnswerShareMemory(t *testing.T) { // P14.4: though what is handed in is of one memory
	b := []byte("ab")
	r := api.Req{Client: 1, Kind: swap, Key: b, Val: b, Old: b[:1], To: b[1:]}
	a := api.Res{Val: b, Rows: []api.Pair{{Key: b, Val: b}, {Key: b[:1], Val: b[1:]}}}
	wantReq := api.Req{Client: 1, Kind: swap, Key: []byte("ab"), Val: []byte("ab"), Old: []byte("a"), To: []byte("b")}
	rows := []api.Pair{{Key: []byte("ab"), Val: []byte("ab")}, {Key: []byte("a"), Val: []byte("b")}}
	wantRes := api.Res{Val: []byte("ab"), Rows: rows}
	s := slots(t, 1)
	s.Post(r)
	s.Claim(0)
	s.Answer(0, a)
	scribble(b)
	got, err := s.Req(0)
	if err != nil || !sameReq(got, wantReq) {
		t.Fatalf("Req: %+v, %v", got, err)
	}
	apart(t, listsOf(got, api.Res{}), listsOf(wantReq, api.Res{}))
	res, err := s.Take(0, 1, 0)
	if err != nil || !sameRes(res, wantRes) {
		t.Fatalf("Take: %+v, %v", res, err)
	}
	apart(t, listsOf(api.Req{}, res), listsOf(api.Req{}, wantRes))
}

func TestOneAnswerGivenToMany(t *testing.T) { // P14.4: each is told memory of its own
	const n = 32
	s := slots(t, n)
	a := plainRes()
	for i := range n {
		r := plainReq(i)
		s.Post(r)
		s.Claim(i)
		s.Answer(i, a)
	}
	for i := range n {
		if r, err := s.Req(i); err != nil || !sameReq(r, plainReq(i)) {
			t.Fatalf("Req(%d): %+v, %v", i, r, err)
		}
		res, err := s.Take(i, i, 7)
		if err != nil || !sameRes(res, plainRes()) {
			t.Fatalf("Take(%d): %+v, %v", i, res, err)
		}
		spoilRes(res)
	}
	if !sameRes(a, plainRes()) {
		t.Errorf("what was handed in follows what was told: %+v", a)
	}
}

func TestOneRequestsMemoryPostedByMany(t *testing.T) { // P14.4
	s := slots(t, 3)
	r := plainReq(0)
	for i := range 3 {
		r.Client = i
		s.Post(r)
	}
	first, _ := s.Req(0)
	spoilReq(first)
	for i := range 3 {
		if got, err := s.Req(i); err != nil || !sameReq(got, plainReq(i)) {
			t.Errorf("Req(%d): %+v, %v", i, got, err)
		}
	}
	spoilReq(r)
	for i := range 3 {
		if got, err := s.Req(i); err != nil || !sameReq(got, plainReq(i)) {
			t.Errorf("Req(%d) follows what was handed in: %+v, %v", i, got, err)
		}
	}
}
