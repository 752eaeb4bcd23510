package part_test

import (
	"errors"
	"maps"
	"math"
	"slices"
	"strconv"
	"testing"

	"garnet/api"
	"garnet/part"
)

// world is partitions that tile all keys, ones that are gone, workers, and
// clients.
type world struct {
	t       *testing.T
	draw    func(int) int
	l       []*both // by rising ranges
	gone    []*both
	keys    []string
	config  api.Config
	workers int
	clients int
	now     int64
	fresh   int // the next new one's number
	seq     int
	seen    map[string]int // how often a call came to what
}

// saw counts what a call came to.
func (w *world) saw(name string, err error) {
	var c api.Code
	errors.As(err, &c)
	w.seen[name+" "+c.Error()]++
}

// one is any partition: mostly one that isn't gone.
func (w *world) one() *both {
	if len(w.gone) > 0 && w.draw(10) == 0 {
		return w.gone[w.draw(len(w.gone))]
	}
	return w.l[w.draw(len(w.l))]
}

// busy is one that has work, if there is one.
func (w *world) busy() *both {
	at := w.draw(len(w.l))
	for i := range w.l {
		if b := w.l[(at+i)%len(w.l)]; b.m.work() {
			return b
		}
	}
	return w.one()
}

func (w *world) key() string { return w.keys[w.draw(len(w.keys))] }

// someAsk is any request; now and then one that may not be.
func (w *world) someAsk() ask {
	vals := []string{"", "a", "b", fullV}
	w.seq++
	a := ask{client: w.draw(w.clients), seq: w.seq, kind: 1 + w.draw(6), key: w.key(), val: vals[w.draw(4)], old: vals[w.draw(4)]}
	if a.kind == scan {
		a.limit = []int{1, 2, 3, 100}[w.draw(4)]
		a.to = []string{"", w.key(), a.key + "\x00", a.key + "z"}[w.draw(4)]
		if w.draw(3) == 0 {
			a.key = ""
		}
	}
	if w.draw(40) == 0 {
		a.kind = 7 * w.draw(2)
	}
	return a
}

func (w *world) post() {
	a := w.someAsk()
	b := w.one()
	if w.draw(5) > 0 { // where it fits
		b = w.l[slices.IndexFunc(w.l, func(b *both) bool { return b.m.span.has(a.key) })]
	}
	_, err := b.post(a)
	w.saw("Post", err)
}

func (w *world) step() {
	b := w.one()
	if w.draw(4) > 0 {
		b = w.busy()
	}
	who, now := w.draw(w.workers), w.now
	if b.m.holder >= 0 && w.draw(2) == 0 {
		who = b.m.holder
	}
	switch w.draw(40) {
	case 0:
		who = []int{-1, math.MinInt, math.MaxInt}[w.draw(3)]
	case 1:
		now = []int64{-1, 1<<40 + 1, math.MaxInt64, math.MinInt64}[w.draw(4)]
	case 2: // a clock that another one looked at ahead
		now = max(0, now-int64(w.draw(4)))
	}
	kind, _, err := b.step(who, now)
	name := "Step"
	if err == nil {
		name += strconv.Itoa(kind)
	}
	w.saw(name, err)
}

func (w *world) take() {
	b := w.one()
	i := w.draw(len(b.m.slots)+2) - 1
	if at := slices.IndexFunc(b.m.slots, func(p place) bool { return p.state >= isDone }); at >= 0 && w.draw(4) > 0 {
		i = at
	}
	client, seq := w.draw(w.clients), w.draw(w.seq+1)
	if i >= 0 && i < len(b.m.slots) && w.draw(5) > 0 {
		client, seq = b.m.slots[i].ask.client, b.m.slots[i].ask.seq
	}
	_, err := b.take(i, client, seq)
	w.saw("Take", err)
}

func (w *world) set() {
	b := w.one()
	state := w.draw(3)
	if b.m.state != open || !b.m.quiet() {
		state = []int{frozen, open, closing}[w.draw(3)]
	}
	if w.draw(10) == 0 {
		state = []int{-1, 4, 1 << 32}[w.draw(3)]
	}
	w.saw("Set", b.set(state))
}

// calm makes one, and the next one, frozen, if that may be.
func (w *world) calm() int {
	i := w.draw(len(w.l))
	for _, b := range w.l[i:min(i+2, len(w.l))] {
		w.saw("Set", b.set(frozen))
	}
	return i
}

func (w *world) cut() {
	i := w.draw(len(w.l))
	if w.draw(3) > 0 {
		i = w.calm()
	}
	b, k := w.l[i], w.key()
	if keys := b.m.pairs.keys(b.m.span); len(keys) > 0 && w.draw(2) == 0 {
		k = keys[w.draw(len(keys))]
	}
	if w.draw(10) == 0 {
		k = []string{b.m.span.from, b.m.span.to, "", overM}[w.draw(4)]
	}
	id := w.fresh
	if w.draw(15) == 0 {
		id = -1
	}
	if len(w.l) >= 6 && w.draw(8) > 0 {
		return
	}
	q, err := b.cut(k, id)
	w.saw("Cut", err)
	if err == nil {
		w.fresh++
		w.l = slices.Insert(w.l, i+1, q)
	}
}

func (w *world) absorb() {
	i := w.draw(len(w.l))
	if w.draw(3) > 0 {
		i = w.calm()
	}
	b := w.l[i]
	if i == len(w.l)-1 || w.draw(6) == 0 {
		q := w.one()
		if q.m.span.from == b.m.span.to && q.m != b.m { // the next one, or one that is gone and begins there, too
			return
		}
		w.saw("Absorb", b.absorb(q))
		return
	}
	q := w.l[i+1]
	err := b.absorb(q)
	w.saw("Absorb", err)
	if err == nil {
		w.l = slices.Delete(w.l, i+1, i+2)
		w.gone = append(w.gone, q)
	}
}

func (w *world) act() {
	w.t.Helper()
	switch n := w.draw(40); {
	case n < 10:
		w.post()
	case n < 24:
		w.step()
	case n < 26:
		w.now += int64(w.draw(w.config.Long + 2))
	case n < 32:
		w.take()
	case n < 34:
		w.set()
	case n == 34:
		is := w.one().redirect()
		w.seen["Redirect "+strconv.FormatBool(is)]++
	case n < 37:
		w.cut()
	case n < 40 && w.draw(2) == 0:
		w.absorb()
	default: // open again, so that there is something to do
		for _, b := range w.l {
			b.set(open)
		}
	}
	if len(w.gone) > 4 {
		w.gone = w.gone[1:]
	}
}

// tiles holds that the ranges tile, and that all are as their models are,
// whatever was done to others.
func (w *world) tiles() {
	w.t.Helper()
	from := ""
	for i, b := range w.l {
		b.agree()
		r := spanOf(b.p.Range())
		if r.from != from || (r.to == "") != (i == len(w.l)-1) {
			w.t.Fatalf("%d of %d: %q behind %q", i, len(w.l), r, from)
		}
		from = r.to
		for _, p := range b.p.Pairs() {
			if !r.has(string(p.Key)) {
				w.t.Fatalf("%q isn't in %q", p.Key, r)
			}
		}
		// A range gets less only where nothing is under way, and what doesn't fit
		// then is redirected ahead of the next batch: so Answered and Redirected
		// are never both to be done, and which one is first isn't to be seen.
		if !b.p.Quiet() && b.m.first(isPosted, func(a ask) bool { return !b.m.fits(a) }) >= 0 {
			w.t.Fatalf("beside a batch a posted request doesn't fit: %+v", b.m.slots)
		}
	}
	for _, b := range w.gone {
		b.agree()
	}
}

// letterKeys is so many keys.
func letterKeys(n int) []string {
	var l []string
	for i := range n {
		l = append(l, string(rune('a'+i*26/n))+[]string{"", "\x00", "m"}[i%3])
	}
	return l
}

func TestManySequences(t *testing.T) { // P19.1 to P19.5, P19.7: few keys and many, small rooms and large ones
	draw := draws()
	seen := map[string]int{}
	for _, keys := range []int{1, 3, 8, 26} {
		for _, c := range []api.Config{
			{Slots: 1, Order: 3, Most: 1, Long: 1}, {Slots: 3, Order: 3, Most: 2, Long: 3},
			{Slots: 8, Order: 4, Most: 5, Long: 10}, {Slots: 32, Order: 16, Most: 1000, Long: 4}, {Slots: 5, Order: 5, Most: 12, Long: 1000},
		} {
			for _, workers := range []int{1, 2, 4} {
				w := &world{t: t, draw: draw, keys: letterKeys(keys), config: c, workers: workers, clients: c.Slots + 2, fresh: 1, seen: seen}
				w.l = []*both{pairUp(t, 0, span{}, c)}
				for i := range 1500 {
					w.act()
					if i%20 == 0 {
						w.tiles()
					}
				}
			}
		}
	}
	sawAll(t, seen)
}

// sawAll holds that all that a call may come to was come to, often enough.
func sawAll(t *testing.T, seen map[string]int) {
	t.Helper()
	for name, codes := range map[string][]api.Code{
		"Post":  {0, api.ErrGone, api.ErrArg, api.ErrRange, api.ErrTwice, api.ErrFull},
		"Take":  {0, api.ErrRange, api.ErrNone, api.ErrState, api.ErrStale},
		"Step":  {api.ErrGone, api.ErrBusy, api.ErrArg},
		"Step0": {0}, "Step1": {0}, "Step2": {0}, "Step3": {0}, "Step4": {0}, "Step5": {0},
		"Set":    {0, api.ErrArg, api.ErrGone, api.ErrState},
		"Cut":    {0, api.ErrState, api.ErrArg, api.ErrRange},
		"Absorb": {0, api.ErrArg, api.ErrState, api.ErrRange, api.ErrFull},
	} {
		for _, c := range codes {
			if n := seen[name+" "+c.Error()]; n < 30 {
				t.Errorf("%s with %v was seen %d times", name, c, n)
			}
		}
	}
	if seen["Redirect true"] < 30 || seen["Redirect false"] < 30 {
		t.Errorf("Redirect: %d, %d", seen["Redirect true"], seen["Redirect false"])
	}
}

func TestPartitionsAreApart(t *testing.T) { // P19.1 to P19.5: each goes by its own calls alone, those that were one, too
	draw := draws()
	c := api.Config{Slots: 4, Order: 3, Most: 6, Long: 3}
	for range 6 {
		w := &world{t: t, draw: draw, keys: letterKeys(12), config: c, workers: 2, clients: 5, fresh: 1, seen: map[string]int{}}
		w.l = []*both{pairUp(t, 0, span{}, c)}
		for range 500 {
			w.act()
			w.tiles()
		}
	}
}

func TestManyPairs(t *testing.T) { // P19.3, P19.5: up to MaxPairs, cut and absorbed again and again
	draw := draws()
	for _, order := range []int{3, 4, 9, 16} {
		c := api.Config{Slots: 32, Order: order, Most: 1000, Long: 3}
		w := &world{t: t, draw: draw, keys: names(1000), config: c, workers: 3, clients: 34, fresh: 1, seen: map[string]int{}}
		b := pairUp(t, 0, span{}, c)
		b.fill(w.keys[:990]...)
		w.l = []*both{b}
		for range 12 {
			for _, b := range append(w.l, w.gone...) {
				b.hasty = true
			}
			for range 60 {
				w.act()
			}
			for _, b := range append(w.l, w.gone...) {
				b.hasty = false
			}
			w.tiles()
		}
	}
}

// who is a request, by its client and number.
type who struct{ client, seq int }

// hold is a lease that somebody was seen to have.
type hold struct {
	w     int
	until int64
}

// tally is what became of requests, by what is told alone.
type tally struct {
	t       *testing.T
	l       []*part.Part // by rising ranges
	old     []*part.Part // gone
	posted  map[who]int  // in which slot; of those that aren't taken
	applied map[who]reply
	held    map[int]hold // by partitions' numbers
	moved   map[who]int  // redirected, how often
	many    int
	most    int
	long    int64
}

// sheetOf is a partition's pairs.
func sheetOf(p *part.Part) sheet {
	s := sheet{}
	for _, x := range p.Pairs() {
		s[string(x.Key)] = string(x.Val)
	}
	return s
}

// step does a micro-step, and holds what it told against the pairs that there
// were, and against who has the lease.
func (y *tally) step(p *part.Part, w int, now int64) {
	y.t.Helper()
	was, stamp := sheetOf(p), p.Stamp()
	kind, l, err := p.Step(w, now)
	if h, is := y.held[p.Id()]; is && h.w != w && now < h.until && err == nil {
		y.t.Fatalf("%d does a micro-step at %d while it is %+v's", w, now, h)
	}
	if err != nil {
		return
	}
	y.held[p.Id()] = hold{w, now + y.long}
	if kind == part.Idle {
		delete(y.held, p.Id())
	}
	if (kind == part.Applied) != (len(l) > 0) {
		y.t.Fatalf("a micro-step of kind %d: %+v", kind, l)
	}
	r := spanOf(p.Range())
	for _, d := range deedsOf(l) {
		id := who{d.ask.client, d.ask.seq}
		_, is := y.posted[id]
		if _, twice := y.applied[id]; twice || !is || y.moved[id] > 0 {
			y.t.Fatalf("%+v is applied; that it was posted is %v, that it was applied %v", id, is, twice)
		}
		y.applied[id] = d.reply
		if want := y.want(was, r, stamp, d.ask); d.reply != want {
			y.t.Fatalf("%+v is told %+v, not %+v", d.ask, d.reply, want)
		}
	}
	if text := textOf(p.Pairs()); text != was.text(r) {
		y.t.Fatalf("Pairs: %s, not %s", text, was.text(r))
	}
}

func (y *tally) want(was sheet, r span, stamp uint64, a ask) reply {
	if a.kind != scan {
		return was.do(a, y.most)
	}
	in, _ := r.common(a.span())
	l := was.keys(in)
	return reply{rows: rowText(l[:min(len(l), a.limit)], func(k string) string { return was[k] }), stamp: stamp}
}

func (y *tally) post(p *part.Part, a ask) {
	if i, err := p.Post(a.req()); err == nil {
		y.posted[who{a.client, a.seq}] = i
		y.many++
	}
}

// take takes all that one may, of all partitions.
func (y *tally) take(draw func(int) int) {
	y.t.Helper()
	ids := slices.Collect(maps.Keys(y.posted))
	slices.SortFunc(ids, func(a, b who) int { return a.seq - b.seq })
	for _, id := range ids {
		if draw(3) == 0 {
			continue
		}
		for _, p := range slices.Concat(y.l, y.old) {
			res, err := p.Take(y.posted[id], id.client, id.seq)
			told, was := y.applied[id]
			switch {
			case err == api.ErrStale && !was:
				y.moved[id]++
			case err == api.ErrNone || err == api.ErrState:
				continue
			case err != nil || !was || replyOf(res) != told:
				y.t.Fatalf("%+v is told %+v, %v, not %+v, %v", id, replyOf(res), err, told, was)
			}
			if _, err := p.Take(y.posted[id], id.client, id.seq); err != api.ErrNone {
				y.t.Fatalf("%+v is told twice: %v", id, err)
			}
			delete(y.posted, id)
			break
		}
	}
}

// move cuts one, or lets it absorb the next one, if that may be.
func (y *tally) move(draw func(int) int, k string, fresh int) {
	i := draw(len(y.l))
	for _, p := range y.l[i:min(i+2, len(y.l))] {
		p.Set(part.Frozen)
	}
	if draw(2) == 0 {
		if q, err := y.l[i].Cut([]byte(k), fresh); err == nil {
			y.l = slices.Insert(y.l, i+1, q)
		}
	} else if i+1 < len(y.l) && y.l[i].Absorb(y.l[i+1]) == nil {
		y.old = append(y.old, y.l[i+1])
		y.l = slices.Delete(y.l, i+1, i+2)
	}
}

// act does any one thing, the n-th.
func (y *tally) act(w *world, n int) {
	y.t.Helper()
	switch w.draw(16) {
	case 0, 1, 2, 3:
		y.post(y.l[w.draw(len(y.l))], w.someAsk())
	case 4, 5:
		y.take(w.draw)
	case 6, 7:
		w.now += int64(w.draw(w.config.Long + 2))
	case 8:
		if w.draw(3) == 0 && len(y.l) < 8 {
			y.move(w.draw, w.key(), 1+n)
		}
		for _, p := range y.l {
			p.Set([]int{part.Open, part.Open, part.Open, part.Closing}[w.draw(4)])
		}
	case 9:
		if w.draw(3) == 0 {
			slices.Concat(y.l, y.old)[w.draw(len(y.l)+len(y.old))].Redirect()
		}
	default:
		p := y.l[w.draw(len(y.l))]
		for range 1 + w.draw(6) {
			y.step(p, w.draw(2), w.now)
		}
	}
}

func TestEachIsAppliedOnceAndToldThat(t *testing.T) { // P19.7, by what is told alone
	draw := draws()
	for _, c := range []api.Config{{Slots: 2, Order: 3, Most: 3, Long: 2}, {Slots: 6, Order: 4, Most: 9, Long: 4}, {Slots: 32, Order: 3, Most: 40, Long: 7}} {
		applied, moved := 0, 0
		for range 6 {
			p, _ := part.New(0, api.Range{}, c)
			y := &tally{t: t, l: []*part.Part{p}, posted: map[who]int{}, applied: map[who]reply{},
				held: map[int]hold{}, moved: map[who]int{}, most: c.Most, long: int64(c.Long)}
			w := &world{draw: draw, keys: letterKeys(13), clients: 2 * c.Slots, config: c}
			for n := range 4000 {
				y.act(w, n)
			}
			y.end(w.now + 1000)
			applied, moved = applied+len(y.applied), moved+len(y.moved)
		}
		if applied < 1000 || moved < 10 {
			t.Errorf("%+v: %d were applied, %d redirected", c, applied, moved)
		}
	}
}

// end brings all that is posted to its end, and holds that nothing is lost.
func (y *tally) end(now int64) {
	y.t.Helper()
	for _, p := range y.l {
		p.Set(part.Open)
		for p.Work() {
			y.step(p, 1, now)
		}
	}
	for _, p := range y.old {
		for p.Redirect() {
		}
	}
	y.take(func(int) int { return 1 })
	if len(y.posted) > 0 || len(y.applied)+len(y.moved) != y.many {
		y.t.Errorf("%d were posted, %d applied, %d redirected; left are %v", y.many, len(y.applied), len(y.moved), y.posted)
	}
}
