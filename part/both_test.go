package part_test

import (
	"bytes"
	"slices"
	"strings"
	"testing"

	"garnet/api"
	"garnet/part"
)

// draws is numbers that look like chance and are the same in each run.
func draws() func(k int) int {
	seed := uint64(1)
	return func(k int) int {
		seed = seed*6364136223846793005 + 1442695040888963407
		return int(seed>>33) % k
	}
}

// roomy is a text's bytes with room behind them, where a careless append
// would write.
func roomy(s string) []byte {
	return append(bytes.Repeat([]byte{'#'}, len(s)+20)[:0], s...)
}

// untouched tells whether these bytes, and the room behind, are as roomy made
// them.
func untouched(b []byte, s string) bool {
	return string(b) == s && cap(b) >= len(s)+20 && strings.Trim(string(b[len(s):len(s)+20]), "#") == ""
}

// spoil writes over bytes, and over the room behind them.
func spoil(lists ...[]byte) {
	for _, b := range lists {
		b = b[:cap(b)]
		for i := range b {
			b[i] = '!'
		}
	}
}

func spoilReq(r api.Req) { spoil(r.Key, r.Val, r.Old, r.To) }

// spoilPairs writes over all that pairs reach: bytes, the list of them, and
// the room behind.
func spoilPairs(l []api.Pair) {
	l = l[:cap(l)]
	for i, p := range l {
		spoil(p.Key, p.Val)
		l[i] = api.Pair{Key: []byte("!"), Val: []byte("!")}
	}
}

func spoilRes(a api.Res) {
	spoil(a.Val)
	spoilPairs(a.Rows)
}

func spoilDone(l []api.Done) {
	l = l[:cap(l)]
	for i, d := range l {
		spoilReq(d.Req)
		spoilRes(d.Res)
		l[i] = api.Done{Req: api.Req{Client: -9}, Res: api.Res{Code: -9}}
	}
}

func (s span) bytes() api.Range { return api.Range{From: roomy(s.from), To: roomy(s.to)} }

func spanOf(r api.Range) span { return span{string(r.From), string(r.To)} }

func (a ask) req() api.Req {
	return api.Req{Client: a.client, Seq: a.seq, Kind: a.kind, Limit: a.limit,
		Key: roomy(a.key), Val: roomy(a.val), Old: roomy(a.old), To: roomy(a.to)}
}

func askOf(r api.Req) ask {
	return ask{r.Client, r.Seq, r.Kind, string(r.Key), string(r.Val), string(r.Old), string(r.To), r.Limit}
}

// holds tells whether a request is as it was handed in, the room behind its
// bytes, too.
func (a ask) holds(r api.Req) bool {
	return askOf(r) == a && untouched(r.Key, a.key) && untouched(r.Val, a.val) && untouched(r.Old, a.old) && untouched(r.To, a.to)
}

// textOf is pairs in the order in which they are told.
func textOf(l []api.Pair) string {
	var keys []string
	for _, p := range l {
		keys = append(keys, string(p.Key))
	}
	i := -1
	return rowText(keys, func(string) string {
		i++
		return string(l[i].Val)
	})
}

func replyOf(a api.Res) reply {
	return reply{a.Code, a.Found, string(a.Val), textOf(a.Rows), a.Stamp}
}

func deedsOf(l []api.Done) []deed {
	var all []deed
	for _, d := range l {
		all = append(all, deed{askOf(d.Req), replyOf(d.Res)})
	}
	return all
}

// both is a partition, and the model of it: each call is done on both, and
// held against it. All that is handed in, and all that is told, is written
// over at once (P19.6), so that each look behind tells whether that is to be
// seen. Errors are held by ==, for each is to be the Code itself.
type both struct {
	t     *testing.T
	p     *part.Part
	m     *model
	hasty bool // it isn't looked at behind each call
	seq   int
}

// tryNew makes one of each, or none.
func tryNew(t *testing.T, id int, s span, c api.Config) (*both, error) {
	t.Helper()
	r := s.bytes()
	p, err := part.New(id, r, c)
	m, want := newModel(id, s, c)
	if err != want || (p == nil) != (m == nil) {
		t.Fatalf("New(%d, %q, %+v): %v, %v, not %v", id, s, c, p, err, want)
	}
	if !untouched(r.From, s.from) || !untouched(r.To, s.to) {
		t.Fatalf("New has turned the range %q into %q", s, r)
	}
	spoil(r.From, r.To)
	if err != nil {
		return nil, err
	}
	b := &both{t: t, p: p, m: m}
	b.agree()
	return b, nil
}

func pairUp(t *testing.T, id int, s span, c api.Config) *both {
	t.Helper()
	b, err := tryNew(t, id, s, c)
	if err != nil {
		t.Fatalf("New(%d, %q, %+v): %v", id, s, c, err)
	}
	return b
}

// agree holds all that may be seen of a partition against the model.
func (b *both) agree() {
	b.t.Helper()
	if b.hasty {
		return
	}
	for range 2 { // what is told once is written over, and told anew
		r := b.p.Range()
		if spanOf(r) != b.m.span {
			b.t.Fatalf("Range: %q, not %q", r, b.m.span)
		}
		spoil(r.From, r.To)
		l := b.p.Pairs()
		if got, want := textOf(l), b.m.pairs.text(b.m.span); got != want || len(l) != len(b.m.pairs) {
			b.t.Fatalf("Pairs: %s, not %s", got, want)
		}
		spoilPairs(l)
	}
	if n := b.p.Id(); n != b.m.id {
		b.t.Fatalf("Id: %d, not %d", n, b.m.id)
	}
	if n := b.p.Stamp(); n != b.m.stamp {
		b.t.Fatalf("Stamp: %d, not %d", n, b.m.stamp)
	}
	if n := b.p.State(); n != b.m.state {
		b.t.Fatalf("State: %d, not %d", n, b.m.state)
	}
	if n := b.p.Epoch(); n != b.m.epoch {
		b.t.Fatalf("Epoch: %d, not %d", n, b.m.epoch)
	}
	if is := b.p.Quiet(); is != b.m.quiet() {
		b.t.Fatalf("Quiet: %v", is)
	}
	if is := b.p.Work(); is != b.m.work() {
		b.t.Fatalf("Work: %v", is)
	}
	b.agreeOfSlots()
}

// agreeOfSlots asks Take what changes nothing: of each slot by whom it wasn't
// posted, and of one that has no answer yet by whom it was.
func (b *both) agreeOfSlots() {
	b.t.Helper()
	for i, x := range b.m.slots {
		b.look(i, x.ask.client, x.ask.seq+1)
		b.look(i, x.ask.client+1, x.ask.seq)
		if x.state < isDone {
			b.look(i, x.ask.client, x.ask.seq)
		}
	}
	b.look(-1, 0, 0)
	b.look(len(b.m.slots), 0, 0)
}

// look is a Take, and no look behind it.
func (b *both) look(i, client, seq int) (reply, error) {
	b.t.Helper()
	res, err := b.p.Take(i, client, seq)
	want, fault := b.m.take(i, client, seq)
	if got := replyOf(res); got != want || err != fault {
		b.t.Fatalf("Take(%d, %d, %d): %+v, %v, not %+v, %v", i, client, seq, got, err, want, fault)
	}
	spoilRes(res)
	return want, fault
}

func (b *both) take(i, client, seq int) (reply, error) {
	b.t.Helper()
	a, err := b.look(i, client, seq)
	b.agree()
	return a, err
}

func (b *both) post(a ask) (int, error) {
	b.t.Helper()
	r := a.req()
	i, err := b.p.Post(r)
	want, fault := b.m.post(a)
	if i != want || err != fault {
		b.t.Fatalf("Post(%+v): %d, %v, not %d, %v", a, i, err, want, fault)
	}
	if !a.holds(r) {
		b.t.Fatalf("Post(%+v) has turned it into %+v", a, askOf(r))
	}
	spoilReq(r)
	b.agree()
	return want, fault
}

func (b *both) step(w int, now int64) (int, []deed, error) {
	b.t.Helper()
	kind, l, err := b.p.Step(w, now)
	want, deeds, fault := b.m.step(w, now)
	if got := deedsOf(l); kind != want || !slices.Equal(got, deeds) || err != fault {
		b.t.Fatalf("Step(%d, %d): %d, %+v, %v, not %d, %+v, %v", w, now, kind, got, err, want, deeds, fault)
	}
	spoilDone(l)
	b.agree()
	return want, deeds, fault
}

func (b *both) set(state int) error {
	b.t.Helper()
	err, want := b.p.Set(state), b.m.set(state)
	if err != want {
		b.t.Fatalf("Set(%d): %v, not %v", state, err, want)
	}
	b.agree()
	return want
}

func (b *both) redirect() bool {
	b.t.Helper()
	is, want := b.p.Redirect(), b.m.redirect()
	if is != want {
		b.t.Fatalf("Redirect: %v", is)
	}
	b.agree()
	return want
}

func (b *both) cut(k string, id int) (*both, error) {
	b.t.Helper()
	handed := roomy(k)
	p, err := b.p.Cut(handed, id)
	m, want := b.m.cut(k, id)
	if err != want || (p == nil) != (m == nil) {
		b.t.Fatalf("Cut(%q, %d): %v, %v, not %v", k, id, p, err, want)
	}
	if !untouched(handed, k) {
		b.t.Fatalf("Cut(%q) has turned the key into %q", k, handed)
	}
	spoil(handed)
	b.agree()
	if want != nil {
		return nil, want
	}
	q := &both{t: b.t, p: p, m: m, hasty: b.hasty}
	q.agree()
	return q, nil
}

func (b *both) absorb(q *both) error {
	b.t.Helper()
	var err, want error
	if q == nil {
		err, want = b.p.Absorb(nil), b.m.absorb(nil)
	} else {
		err, want = b.p.Absorb(q.p), b.m.absorb(q.m)
		q.agree()
	}
	if err != want {
		b.t.Fatalf("Absorb: %v, not %v", err, want)
	}
	b.agree()
	return want
}

// must holds that a call went well.
func (b *both) must(err error) {
	b.t.Helper()
	if err != nil {
		b.t.Fatalf("it went wrong: %v", err)
	}
}

// steps holds what the next micro-steps of a worker are, one behind the other.
func (b *both) steps(w int, now int64, kinds ...int) {
	b.t.Helper()
	for i, want := range kinds {
		kind, _, err := b.step(w, now)
		if kind != want || err != nil {
			b.t.Fatalf("micro-step %d of %v: %d, %v", i, kinds, kind, err)
		}
	}
}

// settle lets a worker go on till nothing is to be done.
func (b *both) settle(w int, now int64) {
	b.t.Helper()
	for range 500 {
		kind, _, err := b.step(w, now)
		b.must(err)
		if kind == idle {
			return
		}
	}
	b.t.Fatal("there is no end of it")
}

// sweep takes all answers that are there.
func (b *both) sweep() {
	b.t.Helper()
	for i, x := range b.m.slots {
		if x.state >= isDone {
			b.take(i, x.ask.client, x.ask.seq)
		}
	}
}

// fill puts keys, each with a value like itself, as many at a time as there
// are slots, without a look behind each call; a few looks stand behind it all.
func (b *both) fill(keys ...string) {
	b.t.Helper()
	was := b.hasty
	b.hasty = true
	for l := range slices.Chunk(keys, len(b.m.slots)) {
		for i, k := range l {
			b.seq++
			_, err := b.post(ask{client: 1000 + i, seq: b.seq, kind: put, key: k, val: "v" + k})
			b.must(err)
		}
		b.settle(0, 0)
		b.sweep()
	}
	b.hasty = was
	b.agree()
}

// justBelow is the greatest key that is less; of the least key that is none.
func justBelow(k string) string {
	last := len(k) - 1
	if last < 0 || k[last] == 0 {
		return k[:max(last, 0)]
	}
	return k[:last] + string([]byte{k[last] - 1}) + strings.Repeat("\xff", max(0, 16-len(k)))
}
