package slot_test

import (
	"bytes"
	"errors"
	"math"
	"slices"
	"testing"

	"garnet/api"
	"garnet/omap"
	"garnet/slot"
)

// States, by the numbers that the chapter gives them.
const (
	empty      = 0
	posted     = 1
	claimed    = 2
	done       = 3
	redirected = 4
	missing    = -1
)

// states is the five of them.
func states() []int { return []int{empty, posted, claimed, done, redirected} }

// The kinds of requests, by the numbers that DOC.md gives them.
const (
	get    = 1
	put    = 2
	del    = 3
	absent = 4
	swap   = 5
	scan   = 6
)

func kinds() []int { return []int{get, put, del, absent, swap, scan} }

// draws is numbers that look like chance and are the same in each run.
func draws() func(k int) int {
	seed := uint64(1)
	return func(k int) int {
		seed = seed*6364136223846793005 + 1442695040888963407
		return int(seed>>33) % k
	}
}

// far is numbers where no slot, no state and no limit is.
func far() []int {
	return []int{math.MinInt, -1 << 32, -33, -2, 33, 100, 1 << 32, 1<<32 + 1, math.MaxInt}
}

func sameReq(a, b api.Req) bool {
	return a.Client == b.Client && a.Seq == b.Seq && a.Kind == b.Kind && a.Limit == b.Limit &&
		bytes.Equal(a.Key, b.Key) && bytes.Equal(a.Val, b.Val) && bytes.Equal(a.Old, b.Old) && bytes.Equal(a.To, b.To)
}

func sameRows(a, b []api.Pair) bool {
	return slices.EqualFunc(a, b, func(p, q api.Pair) bool {
		return bytes.Equal(p.Key, q.Key) && bytes.Equal(p.Val, q.Val)
	})
}

func sameRes(a, b api.Res) bool {
	return a.Code == b.Code && a.Found == b.Found && a.Stamp == b.Stamp && bytes.Equal(a.Val, b.Val) && sameRows(a.Rows, b.Rows)
}

// slots is so many, and none is kept from ahead.
func slots(t *testing.T, n int) *slot.Slots {
	t.Helper()
	s, err := slot.New(n)
	if err != nil || s == nil {
		t.Fatalf("New(%d): %v, %v", n, s, err)
	}
	return s
}

// place is a slot in the chapter's words.
type place struct {
	state int
	req   api.Req
	res   api.Res
}

// model is P14.1 to P14.3 once more: places, one behind the other.
type model []place

func (m model) has(i int) bool { return 0 <= i && i < len(m) }

func (m model) first(state int) int {
	for i, p := range m {
		if p.state == state {
			return i
		}
	}
	return -1
}

func (m model) post(r api.Req) (int, error) {
	if !omap.May(r) {
		return 0, api.ErrArg
	}
	for _, p := range m {
		if p.state != empty && p.req.Client == r.Client {
			return 0, api.ErrTwice
		}
	}
	for i := range m {
		if m[i].state == empty {
			m[i] = place{state: posted, req: r}
			return i, nil
		}
	}
	return 0, api.ErrFull
}

func (m model) reqAt(i int) (api.Req, error) {
	if !m.has(i) {
		return api.Req{}, api.ErrRange
	}
	if m[i].state == empty {
		return api.Req{}, api.ErrNone
	}
	return m[i].req, nil
}

func (m model) claim(i int) error {
	if !m.has(i) {
		return api.ErrRange
	}
	if m[i].state != posted {
		return api.ErrState
	}
	m[i].state = claimed
	return nil
}

func (m model) answer(i int, a api.Res) error {
	if !m.has(i) {
		return api.ErrRange
	}
	if m[i].state != claimed {
		return api.ErrState
	}
	m[i].state, m[i].res = done, a
	return nil
}

func (m model) redirect(i int) error {
	if !m.has(i) {
		return api.ErrRange
	}
	if m[i].state != posted && m[i].state != claimed {
		return api.ErrState
	}
	m[i].state = redirected
	return nil
}

func (m model) take(i, client, seq int) (api.Res, error) {
	if !m.has(i) {
		return api.Res{}, api.ErrRange
	}
	p := m[i]
	if p.state == empty || p.req.Client != client || p.req.Seq != seq {
		return api.Res{}, api.ErrNone
	}
	switch p.state {
	case posted, claimed:
		return api.Res{}, api.ErrState
	case redirected:
		m[i] = place{}
		return api.Res{}, api.ErrStale
	}
	m[i] = place{}
	return p.res, nil
}

// both is slots, and the model of them: each call is done on both, and held
// against it.
type both struct {
	t *testing.T
	s *slot.Slots
	m model
}

func pairUp(t *testing.T, n int) both {
	t.Helper()
	b := both{t, slots(t, n), make(model, n)}
	b.agree()
	return b
}

// agree holds all that may be seen: Len, each slot's State and Req, First.
func (b both) agree() {
	b.t.Helper()
	if n := b.s.Len(); n != len(b.m) {
		b.t.Fatalf("Len: %d, not %d", n, len(b.m))
	}
	for i, p := range b.m {
		if got := b.s.State(i); got != p.state {
			b.t.Fatalf("State(%d): %d, not %d", i, got, p.state)
		}
		b.reqAt(i)
	}
	for state := -1; state <= 5; state++ {
		if got, want := b.s.First(state), b.m.first(state); got != want {
			b.t.Fatalf("First(%d): %d, not %d", state, got, want)
		}
	}
	for _, i := range []int{-1, len(b.m)} {
		if got := b.s.State(i); got != missing {
			b.t.Fatalf("State(%d): %d", i, got)
		}
	}
}

func (b both) reqAt(i int) {
	b.t.Helper()
	got, err := b.s.Req(i)
	want, fault := b.m.reqAt(i)
	if !sameReq(got, want) || err != fault {
		b.t.Fatalf("Req(%d): %+v, %v, not %+v, %v", i, got, err, want, fault)
	}
}

func (b both) post(r api.Req) (int, error) {
	b.t.Helper()
	got, err := b.s.Post(r)
	want, fault := b.m.post(r)
	if got != want || err != fault {
		b.t.Fatalf("Post(%+v): %d, %v, not %d, %v", r, got, err, want, fault)
	}
	b.agree()
	return want, fault
}

func (b both) claim(i int) error {
	b.t.Helper()
	fault := b.m.claim(i)
	b.turned("Claim", i, b.s.Claim(i), fault)
	return fault
}

func (b both) answer(i int, a api.Res) error {
	b.t.Helper()
	fault := b.m.answer(i, a)
	b.turned("Answer", i, b.s.Answer(i, a), fault)
	return fault
}

func (b both) redirect(i int) error {
	b.t.Helper()
	fault := b.m.redirect(i)
	b.turned("Redirect", i, b.s.Redirect(i), fault)
	return fault
}

// turned holds an error by ==, for it is to be the Code itself.
func (b both) turned(name string, i int, err, fault error) {
	b.t.Helper()
	if err != fault {
		b.t.Fatalf("%s(%d): %v, not %v", name, i, err, fault)
	}
	b.agree()
}

func (b both) take(i, client, seq int) (api.Res, error) {
	b.t.Helper()
	got, err := b.s.Take(i, client, seq)
	want, fault := b.m.take(i, client, seq)
	if !sameRes(got, want) || err != fault {
		b.t.Fatalf("Take(%d, %d, %d): %+v, %v, not %+v, %v", i, client, seq, got, err, want, fault)
	}
	b.agree()
	return want, fault
}

// someReq is a request of a client, of any kind; now and then one that may not be.
func someReq(draw func(int) int, client, seq int) api.Req {
	texts := []string{"", "a", "b", "cc"}
	text := func() []byte { return []byte(texts[draw(len(texts))]) }
	r := api.Req{Client: client, Seq: seq, Kind: 1 + draw(6), Key: text(), Val: text(), Old: text()}
	if len(r.Key) == 0 {
		r.Key = []byte{byte(draw(256))}
	}
	if r.Kind == scan {
		r.Limit, r.To = 1+draw(100), append(bytes.Clone(r.Key), text()...)
	}
	if draw(20) == 0 {
		r.Kind = 7 * draw(2)
	}
	return r
}

// someRes is any answer.
func someRes(draw func(int) int) api.Res {
	a := api.Res{Code: draw(12), Found: draw(2) == 0, Stamp: uint64(draw(1 << 30))}
	a.Val = bytes.Repeat([]byte{byte(draw(256))}, draw(4))
	for range draw(4) {
		a.Rows = append(a.Rows, api.Pair{Key: []byte{byte(draw(256))}, Val: []byte{byte(draw(256))}})
	}
	return a
}

// someCall is any call of slots, with clients of a few numbers; it tells the call's error.
func (b both) someCall(draw func(int) int, clients int) (string, error) {
	b.t.Helper()
	i := draw(len(b.m)+2) - 1
	var err error
	switch draw(8) {
	case 0, 1, 2:
		_, err = b.post(someReq(draw, draw(clients+1)-draw(2), draw(3)))
		return "Post", err
	case 3:
		return "Claim", b.claim(i)
	case 4:
		return "Answer", b.answer(i, someRes(draw))
	case 5:
		if draw(3) == 0 {
			return "Redirect", b.redirect(i)
		}
		return "Claim", b.claim(b.m.first(posted))
	case 6:
		return "Answer", b.answer(b.m.first(claimed), someRes(draw))
	}
	client, seq := draw(clients), draw(3)
	if b.m.has(i) && draw(4) > 0 { // mostly whom it was posted by
		client, seq = b.m[i].req.Client, b.m[i].req.Seq
	}
	_, err = b.take(i, client, seq)
	return "Take", err
}

func TestAgainstAModel(t *testing.T) { // P14.1 to P14.3, P14.5
	draw := draws()
	seen := map[string]int{}
	for _, n := range []int{1, 2, 3, 5, 8, 17, 31, 32} {
		for _, clients := range []int{1, 3, n, n + 2, 3 * n} {
			for range 12 {
				b := pairUp(t, n)
				for range 400 {
					name, err := b.someCall(draw, clients)
					b.eachClientOnce()
					var c api.Code
					errors.As(err, &c)
					seen[name+" "+c.Error()]++
				}
			}
		}
	}
	for _, x := range []struct {
		name  string
		codes []api.Code
	}{
		{"Post", []api.Code{0, api.ErrArg, api.ErrTwice, api.ErrFull}},
		{"Claim", []api.Code{0, api.ErrRange, api.ErrState}},
		{"Answer", []api.Code{0, api.ErrRange, api.ErrState}},
		{"Redirect", []api.Code{0, api.ErrRange, api.ErrState}},
		{"Take", []api.Code{0, api.ErrRange, api.ErrNone, api.ErrState, api.ErrStale}},
	} {
		for _, c := range x.codes {
			if n := seen[x.name+" "+c.Error()]; n < 200 {
				t.Errorf("%s with %v was seen %d times", x.name, c, n)
			}
		}
	}
}

// eachClientOnce holds that no client has two requests there: P14.5.
func (b both) eachClientOnce() {
	b.t.Helper()
	seen := map[int]int{}
	for i := range b.s.Len() {
		if r, err := b.s.Req(i); err == nil {
			seen[r.Client]++
			if seen[r.Client] > 1 {
				b.t.Fatalf("client %d has two requests there", r.Client)
			}
		}
	}
}

// asked is a request, by whom and of which number.
type asked struct{ client, seq int }

// desk is slots, and what was posted and given there by whoever asks.
type desk struct {
	t      *testing.T
	s      *slot.Slots
	next   map[int]int      // each client's next number
	open   map[asked]int    // in which slot a request is
	given  map[asked]uint64 // the mark of its answer
	marks  uint64
	ends   map[error]int // how often one was taken: with an answer, or redirected
	client int           // whose turn it is
}

func (d *desk) post() {
	r := api.Req{Client: d.client, Seq: d.next[d.client], Kind: get, Key: []byte("k")}
	at, err := d.s.Post(r)
	if err != nil {
		return
	}
	who := asked{r.Client, r.Seq}
	if _, is := d.open[who]; is {
		d.t.Fatalf("%+v is there twice", who)
	}
	d.open[who] = at
	d.next[d.client]++
}

func (d *desk) answer() {
	i := d.s.First(claimed)
	r, err := d.s.Req(i)
	if err != nil {
		return
	}
	d.marks++
	d.given[asked{r.Client, r.Seq}] = d.marks
	if err := d.s.Answer(i, api.Res{Stamp: d.marks}); err != nil {
		d.t.Fatalf("Answer(%d): %v", i, err)
	}
}

// take takes of a slot with the client's last number, or one ahead of it, and
// at once does so again.
func (d *desk) take(i, back int) {
	who := asked{d.client, d.next[d.client] - 1 - back}
	res, err := d.s.Take(i, who.client, who.seq)
	if err != nil && err != api.ErrStale {
		return
	}
	d.ends[err]++
	if at, is := d.open[who]; !is || at != i {
		d.t.Fatalf("%+v took of slot %d what isn't there: %+v, %v", who, i, res, err)
	}
	if mark, is := d.given[who]; is != (err == nil) || res.Stamp != mark {
		d.t.Fatalf("%+v took %+v, %v, not %d", who, res, err, mark)
	}
	if res, err := d.s.Take(i, who.client, who.seq); err != api.ErrNone || !sameRes(res, api.Res{}) {
		d.t.Fatalf("%+v took twice: %+v, %v", who, res, err)
	}
	delete(d.open, who)
	delete(d.given, who)
}

func TestAnswersAreTakenOnceByWhomTheyWerePosted(t *testing.T) { // P14.5
	draw := draws()
	for _, n := range []int{1, 2, 7, 32} {
		d := desk{t, slots(t, n), map[int]int{}, map[asked]int{}, map[asked]uint64{}, 0, map[error]int{}, 0}
		for range 50000 {
			i := draw(n)
			d.client = draw(n + 3)
			switch draw(6) {
			case 0:
				d.post()
			case 1:
				d.s.Claim(i)
			case 2:
				d.answer()
			case 3:
				if draw(3) == 0 {
					d.s.Redirect(i)
				}
			default:
				if r, err := d.s.Req(i); err == nil && draw(2) == 0 { // whose it is, or anybody
					d.client = r.Client
				}
				d.take(i, draw(4)/3)
			}
		}
		if d.ends[nil] < 100 || d.ends[api.ErrStale] < 100 {
			t.Errorf("of %d slots %v were taken", n, d.ends)
		}
		for who, i := range d.open {
			if r, err := d.s.Req(i); err != nil || r.Client != who.client || r.Seq != who.seq {
				t.Errorf("%+v is lost: %+v, %v", who, r, err)
			}
		}
	}
}
