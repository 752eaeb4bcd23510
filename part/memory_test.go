package part_test

import (
	"slices"
	"testing"

	"garnet/api"
	"garnet/part"
)

// keep holds what was handed in, with room behind, against what it was.
type keep struct {
	t     *testing.T
	lists [][]byte
	texts []string
}

func (k *keep) bytes(s string) []byte {
	b := roomy(s)
	k.lists, k.texts = append(k.lists, b), append(k.texts, s)
	return b
}

func (k *keep) req(a ask) api.Req {
	r := a.req()
	r.Key, r.Val, r.Old, r.To = k.bytes(a.key), k.bytes(a.val), k.bytes(a.old), k.bytes(a.to)
	return r
}

func (k *keep) stays() {
	k.t.Helper()
	for i, b := range k.lists {
		if !untouched(b, k.texts[i]) {
			k.t.Fatalf("what was handed in as %q is %q", k.texts[i], b[:cap(b)])
		}
	}
}

// run lets a worker go on till nothing is to be done.
func run(t *testing.T, p *part.Part) []api.Done {
	t.Helper()
	var all []api.Done
	for range 500 {
		kind, l, err := p.Step(0, 0)
		if err != nil {
			t.Fatalf("Step: %v", err)
		}
		all = append(all, l...)
		if kind == part.Idle {
			return all
		}
	}
	t.Fatal("there is no end of it")
	return nil
}

// fullAsk is a request of a kind in which no list is empty.
func fullAsk(client, kind int, k string) ask {
	return ask{client: client, seq: 7, kind: kind, key: k, val: "value" + k, old: "old", to: "zz", limit: 50}
}

func TestWhatIsHandedInStays(t *testing.T) { // P19.6: beside errors, too, and whatever comes behind it
	k := &keep{t: t}
	p, err := part.New(0, api.Range{From: k.bytes("d"), To: k.bytes("t")}, slotsOf(8))
	if err != nil {
		t.Fatal(err)
	}
	part.New(-1, api.Range{From: k.bytes("d"), To: k.bytes("t")}, plain())
	for round := range 3 {
		for kind := get; kind <= scan; kind++ {
			for _, at := range []string{"e", "p", "a", longM, overM} {
				a := fullAsk(kind, kind, at)
				a.seq = round
				p.Post(k.req(a)) // some fit, some don't, some are there twice
			}
		}
		spoilDone(run(t, p))
		k.stays()
		for kind := get; kind <= scan; kind++ {
			res, err := p.Take(kind-1, kind, round)
			if err != nil {
				t.Fatalf("Take: %v", err)
			}
			spoilRes(res)
		}
		k.stays()
	}
	p.Set(part.Frozen)
	for _, at := range []string{"d", "t", "", overM, "m"} {
		q, err := p.Cut(k.bytes(at), 5)
		if err == nil {
			q.Set(part.Frozen)
			spoilPairs(q.Pairs())
			p.Absorb(q)
		}
	}
	spoilPairs(p.Pairs())
	k.stays()
}

func TestWhatIsHandedInIsNotKept(t *testing.T) { // P19.6, R2: it is written over at once, and the partition goes on
	r := span{"d", "t"}.bytes()
	p, err := part.New(0, r, slotsOf(8))
	if err != nil {
		t.Fatal(err)
	}
	spoil(r.From, r.To)
	if spanOf(p.Range()) != (span{"d", "t"}) {
		t.Fatalf("Range: %q", p.Range())
	}
	for seq := range 3 {
		l := []ask{fullAsk(0, put, "e"), fullAsk(1, absent, "m"), fullAsk(2, swap, "e"), fullAsk(3, scan, "d"), fullAsk(4, get, "m"), fullAsk(5, put, "q")}
		for i, a := range l {
			l[i].seq = seq
			req := l[i].req()
			if _, err := p.Post(req); err != nil {
				t.Fatalf("Post(%+v): %v", a, err)
			}
			spoilReq(req)
		}
		for _, d := range deedsOf(run(t, p)) {
			if d.ask != l[d.ask.client] {
				t.Errorf("%+v was applied as %+v", l[d.ask.client], d.ask)
			}
		}
		for i := range l {
			if _, err := p.Take(i, i, seq); err != nil {
				t.Errorf("Take: %v", err)
			}
		}
	}
	want := `"e"="valuee" "m"="valuem" "q"="valueq" `
	if got := textOf(p.Pairs()); got != want {
		t.Errorf("Pairs: %s", got)
	}
	p.Set(part.Frozen)
	k := roomy("m")
	q, err := p.Cut(k, 5)
	if err != nil {
		t.Fatal(err)
	}
	spoil(k)
	if spanOf(p.Range()) != (span{"d", "m"}) || spanOf(q.Range()) != (span{"m", "t"}) || textOf(p.Pairs())+textOf(q.Pairs()) != want {
		t.Errorf("%q %q, %q %q", p.Range(), p.Pairs(), q.Range(), q.Pairs())
	}
}

func TestWhatIsToldIsNewMemory(t *testing.T) { // P19.6: it is written over, and told anew; in each state
	eachWay(t, func(t *testing.T, one func() *both) {
		b := one()
		r, l := b.p.Range(), b.p.Pairs()
		spoil(r.From, r.To)
		spoilPairs(l)
		b.agree()
		if b.m.state != gone {
			b.must(b.set(open))
			for range 20 {
				b.step(1, 90) // what that told is written over
			}
		}
		b.sweep() // what was answered is told as it was
	})
}

// told is all that a partition told at one time, as texts.
type told struct {
	r     api.Range
	pairs []api.Pair
	done  []api.Done
	res   []api.Res
}

func (x told) texts() (span, string, []deed, []reply) {
	var l []reply
	for _, a := range x.res {
		l = append(l, replyOf(a))
	}
	return spanOf(x.r), textOf(x.pairs), deedsOf(x.done), l
}

// tell lets a partition of three pairs tell all it can.
func tell(t *testing.T, p *part.Part, seq int) told {
	t.Helper()
	for i, a := range []ask{fullAsk(0, put, "e"), fullAsk(1, get, "e"), fullAsk(2, scan, "d"), fullAsk(3, put, "m"), fullAsk(4, scan, "e"), fullAsk(5, put, "p")} {
		a.seq = seq
		if at, err := p.Post(a.req()); at != i || err != nil {
			t.Fatalf("Post(%+v): %d, %v", a, at, err)
		}
	}
	x := told{done: run(t, p), pairs: p.Pairs(), r: p.Range()}
	for i := range 6 {
		res, err := p.Take(i, i, seq)
		if err != nil {
			t.Fatalf("Take: %v", err)
		}
		x.res = append(x.res, res)
	}
	return x
}

func newPart(t *testing.T) *part.Part {
	t.Helper()
	p, err := part.New(0, span{"d", "t"}.bytes(), slotsOf(8))
	if err != nil {
		t.Fatal(err)
	}
	return p
}

func TestWhatWasToldStays(t *testing.T) { // P19.6: whatever is done behind it
	p := newPart(t)
	tell(t, p, 0)
	x := tell(t, p, 1)
	r, pairs, done, res := x.texts()
	for seq, kind := range []int{del, put, swap, absent, del} {
		for i, k := range []string{"e", "m", "p"} {
			a := ask{client: i, seq: 5 + seq, kind: kind, key: k, val: "XXXXXX", old: "XXXXXX"}
			if _, err := p.Post(a.req()); err != nil {
				t.Fatal(err)
			}
		}
		run(t, p)
		for i := range 3 {
			p.Take(i, i, 5+seq)
		}
	}
	p.Set(part.Frozen)
	q, err := p.Cut([]byte("m"), 4)
	if err != nil {
		t.Fatal(err)
	}
	q.Set(part.Frozen)
	p.Absorb(q)
	r1, pairs1, done1, res1 := x.texts()
	if r1 != r || pairs1 != pairs || !slices.Equal(done1, done) || !slices.Equal(res1, res) {
		t.Errorf("%q %s %+v %+v, not %q %s %+v %+v", r1, pairs1, done1, res1, r, pairs, done, res)
	}
}

func TestWhatStepToldAndTakeTells(t *testing.T) { // P19.6: the answer in the slot isn't the one that Step told
	p := newPart(t)
	tell(t, p, 0)
	want := tell(t, p, 1)
	_, _, _, res := want.texts()
	for i, a := range []ask{fullAsk(0, put, "e"), fullAsk(1, get, "e"), fullAsk(2, scan, "d"), fullAsk(3, put, "m"), fullAsk(4, scan, "e"), fullAsk(5, put, "p")} {
		if at, err := p.Post(a.req()); at != i || err != nil {
			t.Fatalf("Post(%+v): %d, %v", a, at, err)
		}
	}
	for range 30 {
		_, l, err := p.Step(0, 0)
		if err != nil {
			t.Fatal(err)
		}
		spoilDone(l)
	}
	for i, want := range res {
		got, err := p.Take(i, i, 7)
		if replyOf(got) != want || err != nil {
			t.Errorf("%d is told %+v, %v, not %+v", i, replyOf(got), err, want)
		}
		spoilRes(got)
	}
	if textOf(p.Pairs()) != textOf(want.pairs) {
		t.Errorf("Pairs: %q", p.Pairs())
	}
}

// lists is all bytes that were told, list by list.
func (x told) lists() [][]byte {
	l := [][]byte{x.r.From, x.r.To}
	pairs := func(of []api.Pair) {
		for _, p := range of {
			l = append(l, p.Key, p.Val)
		}
	}
	pairs(x.pairs)
	for _, d := range x.done {
		l = append(l, d.Req.Key, d.Req.Val, d.Req.Old, d.Req.To, d.Res.Val)
		pairs(d.Res.Rows)
	}
	for _, a := range x.res {
		l = append(l, a.Val)
		pairs(a.Rows)
	}
	return l
}

func TestNoTwoListsShareMemory(t *testing.T) { // P19.6: of one answer, and of several
	p := newPart(t)
	tell(t, p, 0)
	x := tell(t, p, 1)
	l := x.lists()
	var want []string
	for _, b := range l {
		want = append(want, string(b))
	}
	for i, b := range l {
		if string(b) != want[i] {
			t.Fatalf("list %d is %q, not %q", i, b, want[i])
		}
		spoil(b)
	}
	if spanOf(p.Range()) != (span{"d", "t"}) || textOf(p.Pairs()) != `"e"="valuee" "m"="valuem" "p"="valuep" ` {
		t.Errorf("the partition follows: %q, %q", p.Range(), p.Pairs())
	}
}

func TestTwoThatWereOneShareNothing(t *testing.T) { // P19.6: what one told is written over, the other tells all the same
	b := frozenOne(t, "e", "f", "m", "n", "p")
	q, err := b.cut("m", 8)
	b.must(err)
	for range 2 {
		for _, p := range []*part.Part{b.p, q.p} {
			r := p.Range()
			spoil(r.From, r.To)
			spoilPairs(p.Pairs())
			b.agree()
			q.agree()
		}
		b.must(b.set(open))
		b.must(q.set(open))
		b.posts(by(0, put, "f"), by(1, del, "e"))
		q.posts(by(0, put, "n"), by(1, del, "p"))
		b.settle(0, 0)
		q.agree()
		q.settle(1, 0)
		b.agree()
		b.sweep()
		q.sweep()
	}
}

func TestWhatIsAbsorbedSharesNothing(t *testing.T) { // P19.6: the other one's range stays, whatever this one does
	b, q := frozenOne(t, "e", "m"), nextTo(t, "x", plain(), "t", "u")
	b.must(b.absorb(q))
	r, other := b.p.Range(), q.p.Range()
	spoil(r.From, r.To)
	q.agree()
	spoil(other.From, other.To)
	b.agree()
	b.must(b.set(open))
	b.posts(by(0, del, "t"), by(1, put, "u"), by(2, put, "w"))
	b.settle(0, 0)
	q.agree()
	if len(q.p.Pairs()) != 0 || len(b.p.Pairs()) != 4 {
		t.Errorf("%q, and %q", b.p.Pairs(), q.p.Pairs())
	}
}
