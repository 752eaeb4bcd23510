package part_test

import (
	"math"
	"slices"
	"strings"
	"testing"

	"garnet/api"
	"garnet/part"
)

// Keys of MaxKey bytes and of one more, values of MaxVal bytes and of one more.
const (
	longM = "mmmmmmmmmmmmmmmm"
	overM = longM + "m"
	fullV = "vvvvvvvvvvvvvvvvvvvvvvvvvvvvvvvv"
	overV = fullV + "v"
)

// plain is a config with much room.
func plain() api.Config {
	return api.Config{Workers: 3, Slots: 4, Order: 4, Most: 100, Long: 5, Tries: 3}
}

// roomFor is one with room for so many pairs.
func roomFor(most int) api.Config {
	c := plain()
	c.Most = most
	return c
}

// slotsOf is one with so many slots.
func slotsOf(n int) api.Config {
	c := plain()
	c.Slots = n
	return c
}

// dToT is a partition of a range with both ends.
func dToT(t *testing.T, c api.Config) *both {
	t.Helper()
	return pairUp(t, 3, span{"d", "t"}, c)
}

// by is a request of a client, that may be.
func by(client, kind int, k string) ask {
	a := ask{client: client, seq: 7, kind: kind, key: k, val: "new", old: "v" + k}
	if kind == scan {
		a.val, a.old, a.limit = "", "", 100
	}
	return a
}

func scanOf(client int, from, to string, limit int) ask {
	return ask{client: client, seq: 7, kind: scan, key: from, to: to, limit: limit}
}

// posts posts requests, each of which is to go well.
func (b *both) posts(l ...ask) {
	b.t.Helper()
	for _, a := range l {
		_, err := b.post(a)
		b.must(err)
	}
}

// applies is what the next micro-step applies.
func (b *both) applies(w int, now int64) []deed {
	b.t.Helper()
	kind, l, err := b.step(w, now)
	if kind != applied || err != nil {
		b.t.Fatalf("nothing is applied: %d, %v", kind, err)
	}
	return l
}

// clients is whose requests were applied, in order.
func clients(l []deed) []int {
	var who []int
	for _, d := range l {
		who = append(who, d.ask.client)
	}
	return who
}

func TestNumbers(t *testing.T) { // the chapter's constants; DOC.md, Words
	kinds := []int{part.Idle, part.Applied, part.Answered, part.Redirected, part.Claimed, part.Begun}
	states := []int{part.Open, part.Closing, part.Frozen, part.Gone}
	if !slices.Equal(kinds, []int{0, 1, 2, 3, 4, 5}) || !slices.Equal(states, []int{0, 1, 2, 3}) {
		t.Errorf("%v, %v", kinds, states)
	}
	limits := []int{api.MaxKey, api.MaxVal, api.MaxOrder, api.MaxPairs, api.MaxRows, api.MaxSlots, api.MaxBatch, api.MaxLong, api.MaxTime}
	if !slices.Equal(limits, []int{16, 32, 16, 1000, 100, 32, 32, 1000, 1 << 40}) {
		t.Errorf("other limits: %v", limits)
	}
	codes := []api.Code{api.ErrArg, api.ErrNone, api.ErrTwice, api.ErrFull, api.ErrRange, api.ErrBusy, api.ErrStale, api.ErrGone, api.ErrState}
	if !slices.Equal(codes, []api.Code{1, 3, 4, 5, 6, 7, 8, 9, 10}) {
		t.Errorf("other errors: %v", codes)
	}
}

func TestExample(t *testing.T) { // the chapter's table, of each kind of request, one behind the other
	p, err := part.New(0, api.Range{}, plain())
	if err != nil {
		t.Fatal(err)
	}
	for seq, x := range []struct {
		kind int
		want reply
		then string
	}{
		{get, reply{}, ""},
		{swap, reply{code: 3}, ""},
		{put, reply{}, `"k"="v0" `},
		{absent, reply{found: true, val: "v0"}, `"k"="v0" `},
		{swap, reply{found: true, val: "v0"}, `"k"="v1" `},
		{swap, reply{code: 10, found: true, val: "v1"}, `"k"="v1" `},
		{scan, reply{rows: `"k"="v1" `, stamp: 2}, `"k"="v1" `},
		{del, reply{found: true, val: "v1"}, ""},
		{absent, reply{}, `"k"="v0" `},
	} {
		val := map[int]string{put: "v0", swap: "v1", absent: "v0"}[x.kind]
		a := ask{client: 2, seq: seq, kind: x.kind, key: "k", val: val, old: "v0", limit: 9}
		i, err := p.Post(a.req())
		if i != 0 || err != nil || !p.Work() || !p.Quiet() {
			t.Fatalf("Post: %d, %v", i, err)
		}
		for _, want := range []int{part.Claimed, part.Begun, part.Applied, part.Answered, part.Idle} {
			kind, l, err := p.Step(1, 0)
			if kind != want || err != nil || (len(l) == 1) != (want == part.Applied) {
				t.Fatalf("Step: %d, %+v, %v, not %d", kind, l, err, want)
			}
			if want == part.Applied && !slices.Equal(deedsOf(l), []deed{{a, x.want}}) {
				t.Errorf("Step: %+v, not %+v", deedsOf(l), x.want)
			}
		}
		if res, err := p.Take(0, 2, seq); replyOf(res) != x.want || err != nil {
			t.Errorf("Take: %+v, %v, not %+v", replyOf(res), err, x.want)
		}
		if l := textOf(p.Pairs()); l != x.then {
			t.Errorf("Pairs: %s, not %s", l, x.then)
		}
	}
	if n := p.Stamp(); n != 4 {
		t.Errorf("Stamp: %d", n)
	}
}

func TestANewOne(t *testing.T) { // P19.1: of each kind of range, empty
	for _, s := range []span{{}, {"d", "t"}, {"", "t"}, {"d", ""}, {"d", "d\x00"}, {"", "\x00"}, {longM, ""}, {"", longM}} {
		for _, id := range []int{0, 1, 15, 1 << 32, math.MaxInt} {
			p, err := part.New(id, s.bytes(), plain())
			if err != nil || p == nil {
				t.Fatalf("New(%d, %q): %v", id, s, err)
			}
			if p.Id() != id || spanOf(p.Range()) != s || p.State() != part.Open {
				t.Errorf("New(%d, %q): %d, %q, %d", id, s, p.Id(), p.Range(), p.State())
			}
			if !p.Quiet() || p.Work() || p.Stamp() != 0 || p.Epoch() != 0 || len(p.Pairs()) != 0 {
				t.Errorf("Quiet %v, Work %v, Stamp %d, Epoch %d, Pairs %v", p.Quiet(), p.Work(), p.Stamp(), p.Epoch(), p.Pairs())
			}
			if p.Redirect() {
				t.Error("there is something to redirect")
			}
		}
	}
}

// edges is each of c's fields: what is just below its least, at it and above
// it, likewise its greatest; and far ones.
func edges() []struct {
	name  string
	field func(c *api.Config) *int
	may   []int
	not   []int
} {
	far := []int{math.MinInt, -1 << 32, -1, 1 << 32, 1<<32 + 4, math.MaxInt}
	return []struct {
		name  string
		field func(c *api.Config) *int
		may   []int
		not   []int
	}{
		{"Slots", func(c *api.Config) *int { return &c.Slots }, []int{1, 2, 31, 32}, append([]int{0, 33, 34}, far...)},
		{"Order", func(c *api.Config) *int { return &c.Order }, []int{3, 4, 15, 16}, append([]int{0, 1, 2, 17, 18}, far...)},
		{"Most", func(c *api.Config) *int { return &c.Most }, []int{1, 2, 999, 1000}, append([]int{0, 1001, 1002}, far...)},
		{"Long", func(c *api.Config) *int { return &c.Long }, []int{1, 2, 999, 1000}, append([]int{0, 1001, 1002}, far...)},
	}
}

// refused holds that New makes none.
func refused(t *testing.T, id int, s span, c api.Config) {
	t.Helper()
	if p, err := part.New(id, s.bytes(), c); p != nil || err != api.ErrArg {
		t.Errorf("New(%d, %q, %+v): %v, %v", id, s, c, p, err)
	}
}

func TestNewOfEachLimit(t *testing.T) { // P19.1, R3
	for _, e := range edges() {
		for _, n := range e.may {
			c := plain()
			*e.field(&c) = n
			if p, err := part.New(0, api.Range{}, c); p == nil || err != nil {
				t.Errorf("%s of %d: %v", e.name, n, err)
			}
		}
		for _, n := range e.not {
			c := plain()
			*e.field(&c) = n
			refused(t, 0, span{}, c)
		}
	}
	refused(t, 0, span{}, api.Config{})
	refused(t, 0, span{}, api.Config{Workers: 1, Tries: 1})
}

func TestNewWrong(t *testing.T) { // P19.1: numbers below 0, ranges that may not be, alone and together
	for _, id := range []int{-1, -2, -1 << 32, math.MinInt} {
		refused(t, id, span{}, plain())
		refused(t, id, span{"d", "d"}, plain())
		refused(t, id, span{}, api.Config{})
	}
	for _, s := range []span{{"d", "d"}, {"t", "d"}, {"da", "d"}, {overM, ""}, {"", overM}, {"d", overM}, {strings.Repeat("m", 999), ""}, {longM, longM}} {
		refused(t, 0, s, plain())
		refused(t, 0, s, api.Config{})
	}
	for _, s := range []span{{longM, longM[:15] + "n"}, {"d", "da"}, {"d", longM}, {"\xff", ""}} {
		pairUp(t, 0, s, plain())
	}
}

func TestNewAsksNeitherWorkersNorTries(t *testing.T) { // P19.1
	for _, n := range []int{math.MinInt, -1, 0, 1, 3, 16, 17, 100, 101, math.MaxInt} {
		for _, c := range []api.Config{{Workers: n, Slots: 1, Order: 3, Most: 1, Long: 1}, {Tries: n, Slots: 32, Order: 16, Most: 1000, Long: 1000}, {Workers: n, Tries: n, Slots: 2, Order: 4, Most: 5, Long: 5}} {
			b := pairUp(t, 0, span{}, c)
			b.posts(by(0, put, "k"))
			b.steps(0, 0, claimed, begun, applied, answered, idle)
		}
	}
}

func TestAsManySlotsAsThereAre(t *testing.T) { // P19.1, P19.2: 1 to MaxSlots
	for n := 1; n <= 32; n++ {
		b := pairUp(t, 0, span{}, slotsOf(n))
		for i := range n {
			if at, err := b.post(by(i, put, "k")); at != i || err != nil {
				t.Fatalf("of %d: Post: %d, %v", n, at, err)
			}
		}
		if _, err := b.post(by(n, put, "k")); err != api.ErrFull {
			t.Fatalf("of %d, one more: %v", n, err)
		}
		if _, err := b.take(n, 0, 7); err != api.ErrRange {
			t.Errorf("of %d: Take(%d): %v", n, n, err)
		}
		if _, err := b.take(n-1, n-1, 7); err != api.ErrState {
			t.Errorf("of %d: Take(%d): %v", n, n-1, err)
		}
	}
}

// names is so many keys, no two alike, in no order.
func names(n int) []string {
	var l []string
	for i := range n {
		i = i * 611 % 1000 // 611 and 1000 have no divisor in common
		l = append(l, string([]byte{'d' + byte(i%10), byte(i / 10)}))
	}
	return l
}

func TestAsMuchRoomAsThereIs(t *testing.T) { // P19.3: 1 to MaxPairs; a new key, and one that is there
	for _, most := range []int{1, 2, 3, 17, 999, 1000} {
		for _, order := range []int{3, 4, 7, 16} {
			c := api.Config{Slots: 32, Order: order, Most: most, Long: 1}
			b := pairUp(t, 0, span{"d", "t"}, c)
			l := names(most)
			b.fill(l...)
			if n := len(b.p.Pairs()); n != most || b.p.Stamp() != uint64(most) {
				t.Fatalf("room for %d: %d pairs, stamp %d", most, n, b.p.Stamp())
			}
			b.posts(by(0, put, "new"), by(1, put, l[0]), by(2, get, l[most-1]), by(3, absent, "sew"))
			b.settle(0, 0)
			for i, want := range []reply{{code: 5}, {found: true, val: "v" + l[0]}, {found: true, val: "v" + l[most-1]}, {code: 5}} {
				if most == 1 && i == 2 {
					want.val = "new"
				}
				if got, err := b.take(i, i, 7); got != want || err != nil {
					t.Errorf("room for %d, order %d: %d is told %+v, %v", most, order, i, got, err)
				}
			}
			if n := b.p.Stamp(); n != uint64(most)+1 {
				t.Errorf("room for %d: stamp %d", most, n)
			}
		}
	}
}

func TestEachOrder(t *testing.T) { // P19.3: trees that grow, and shrink
	for order := 3; order <= 16; order++ {
		c := api.Config{Slots: 8, Order: order, Most: 300, Long: 1}
		b := pairUp(t, 0, span{}, c)
		l := names(300)
		b.fill(l...)
		b.hasty = true
		for i := range 280 {
			b.posts(by(0, del, l[i]))
			b.settle(0, 0)
			if got, err := b.take(0, 0, 7); got != (reply{found: true, val: "v" + l[i]}) || err != nil {
				t.Fatalf("order %d: %q is told %+v, %v", order, l[i], got, err)
			}
		}
		b.hasty = false
		b.agree()
	}
}

func TestEachLong(t *testing.T) { // P19.1, P19.3: 1 to MaxLong
	for _, long := range []int64{1, 2, 5, 999, 1000} {
		for _, now := range []int64{0, 1, 77, 1 << 32, 1<<40 - 1000, 1<<40 - long} {
			c := plain()
			c.Long = int(long)
			b := pairUp(t, 0, span{}, c)
			b.posts(by(0, put, "a"), by(1, put, "b"))
			b.steps(0, now, claimed)
			if _, _, err := b.step(1, now+long-1); err != api.ErrBusy {
				t.Errorf("Long %d, from tick %d: %v", long, now, err)
			}
			if kind, _, err := b.step(1, now+long); kind != claimed || err != nil || b.p.Epoch() != 2 {
				t.Errorf("Long %d, from tick %d, just run out: %d, %v, epoch %d", long, now, kind, err, b.p.Epoch())
			}
		}
	}
}

func TestPostOfKeys(t *testing.T) { // P19.2: d to t; of each kind but scans
	for _, x := range []struct {
		k    string
		want error
	}{
		{"a", api.ErrRange}, {"\x00", api.ErrRange}, {"c" + strings.Repeat("\xff", 15), api.ErrRange},
		{"d", nil}, {"d\x00", nil}, {"m", nil}, {longM, nil}, {"s" + strings.Repeat("\xff", 15), nil},
		{"t", api.ErrRange}, {"t\x00", api.ErrRange}, {"z", api.ErrRange}, {strings.Repeat("\xff", 16), api.ErrRange},
		{"", api.ErrArg}, {overM, api.ErrArg},
	} {
		for _, kind := range []int{get, put, del, absent, swap} {
			b := dToT(t, plain())
			if i, err := b.post(by(0, kind, x.k)); i != 0 || err != x.want {
				t.Errorf("kind %d at %q: %d, %v", kind, x.k, i, err)
			}
			if b.p.Work() != (x.want == nil) {
				t.Errorf("kind %d at %q: Work: %v", kind, x.k, b.p.Work())
			}
			odd := by(1, kind, x.k) // neither To nor Limit is asked of these
			odd.to, odd.limit = "a", -9
			if _, err := b.post(odd); err != x.want {
				t.Errorf("kind %d at %q, with To and Limit: %v", kind, x.k, err)
			}
		}
	}
}

func TestPostOfKeysInEachRange(t *testing.T) { // P19.2: just below, at, and just behind each end there is
	for _, s := range []span{{}, {"d", "t"}, {"", "t"}, {"d", ""}, {"d", "d\x00"}, {longM, "n"}, {"\x00", "\xff"}, {"", "\x00"}} {
		b := pairUp(t, 0, s, slotsOf(32))
		for i, k := range []string{justBelow(s.from), s.from, s.from + "\x00", justBelow(s.to), s.to, s.to + "\x00", "\x00", "m", "\xff"} {
			want := error(nil)
			switch {
			case len(k) == 0 || len(k) > 16:
				want = api.ErrArg
			case k < s.from || s.to != "" && k >= s.to:
				want = api.ErrRange
			}
			if _, err := b.post(by(i, get, k)); err != want {
				t.Errorf("%q: Post at %q: %v, not %v", s, k, err, want)
			}
		}
	}
}

func TestPostOfScans(t *testing.T) { // P19.2: d to t
	justT := "s" + strings.Repeat("\xff", 15)
	for _, x := range []struct {
		name     string
		from, to string
		want     error
	}{
		{"all", "", "", nil},
		{"just it", "d", "t", nil},
		{"around it", "a", "z", nil},
		{"within it", "f", "g", nil},
		{"across its From", "a", "f", nil},
		{"across its To", "p", "z", nil},
		{"from its From on", "d", "", nil},
		{"up to its To", "", "t", nil},
		{"from within it on", "f", "", nil},
		{"up to within it", "", "f", nil},
		{"up to just behind its From", "a", "d\x00", nil},
		{"from just below its To on", justT, "z", nil},
		{"its first key alone", "d", "d\x00", nil},
		{"its last key alone", justT, "t", nil},
		{"ends where it begins", "a", "d", api.ErrRange},
		{"from the first key on, ends where it begins", "", "d", api.ErrRange},
		{"begins where it ends", "t", "z", api.ErrRange},
		{"begins where it ends, without an end", "t", "", api.ErrRange},
		{"far below it", "a", "b", api.ErrRange},
		{"far behind it", "x", "z", api.ErrRange},
		{"just below it", "c", "c" + strings.Repeat("\xff", 15), api.ErrRange},
		{"a range that may not be", "m", "m", api.ErrArg},
		{"another one", "m", "f", api.ErrArg},
		{"too long a From", overM, "", api.ErrArg},
		{"too long a To", "f", overM, api.ErrArg},
	} {
		b := dToT(t, plain())
		for i, limit := range []int{1, 100} {
			if _, err := b.post(scanOf(i, x.from, x.to, limit)); err != x.want {
				t.Errorf("%s: %v, not %v", x.name, err, x.want)
			}
		}
		for _, limit := range []int{0, -1, 101, math.MaxInt} {
			if _, err := b.post(scanOf(2, x.from, x.to, limit)); err != api.ErrArg {
				t.Errorf("%s, Limit %d: %v", x.name, limit, err)
			}
		}
	}
}

// badAsks is requests that may not be, each by one thing alone.
func badAsks() []ask {
	var l []ask
	for _, kind := range []int{get, put, del, absent, swap, scan} {
		for _, f := range []func(a *ask){
			func(a *ask) { a.client = -1 }, func(a *ask) { a.client = math.MinInt },
			func(a *ask) { a.seq = -1 }, func(a *ask) { a.val = overV }, func(a *ask) { a.old = overV },
			func(a *ask) { a.key = overM }, func(a *ask) { a.kind = 0 }, func(a *ask) { a.kind = 7 },
			func(a *ask) { a.kind = -1 }, func(a *ask) { a.kind = 1 << 32 },
		} {
			a := by(0, kind, "m")
			f(&a)
			l = append(l, a)
		}
	}
	return append(l, by(0, get, ""), by(0, put, ""), scanOf(0, "m", "m", 5), scanOf(0, "m", "n", 0), ask{})
}

func TestPostOfWhatMayNotBe(t *testing.T) { // P19.2, ErrArg ahead of ErrRange, and of slot.Post's
	for _, a := range badAsks() {
		b := dToT(t, slotsOf(2))
		if i, err := b.post(a); i != 0 || err != api.ErrArg {
			t.Errorf("%+v: %d, %v", a, i, err)
		}
		far := a
		if a.kind != scan && a.key == "m" {
			far.key = "z"
		}
		b.posts(by(0, get, "m"), by(1, get, "m"))
		for _, a := range []ask{a, far} {
			if _, err := b.post(a); err != api.ErrArg {
				t.Errorf("%+v, behind others: %v", a, err)
			}
		}
	}
}

func TestPostErrorsInOrder(t *testing.T) { // P19.2: each pair of them
	bad, far, twice, fine := by(5, 7, "z"), by(0, get, "z"), by(0, get, "m"), by(5, get, "m")
	b := dToT(t, slotsOf(2))
	b.posts(by(0, put, "m"))
	farBad := far
	farBad.val = overV
	for _, x := range []struct {
		name string
		a    ask
		want error
	}{{"bad and far", bad, api.ErrArg}, {"bad, far and twice", farBad, api.ErrArg}, {"far and twice", far, api.ErrRange}, {"twice", twice, api.ErrTwice}} {
		if _, err := b.post(x.a); err != x.want {
			t.Errorf("%s: %v", x.name, err)
		}
	}
	b.posts(by(1, put, "m"))
	for _, x := range []struct {
		name string
		a    ask
		want error
	}{{"bad, no empty slot", bad, api.ErrArg}, {"far, no empty slot", by(5, get, "z"), api.ErrRange}, {"twice, no empty slot", twice, api.ErrTwice}, {"no empty slot", fine, api.ErrFull}} {
		if _, err := b.post(x.a); err != x.want {
			t.Errorf("%s: %v", x.name, err)
		}
	}
	b.must(b.set(gone))
	for _, a := range []ask{bad, farBad, far, twice, fine, {}, scanOf(5, "", "", 0)} {
		if i, err := b.post(a); i != 0 || err != api.ErrGone {
			t.Errorf("gone: Post(%+v): %d, %v", a, i, err)
		}
	}
}

func TestPostInEachSlotState(t *testing.T) { // P19.2: a client has a slot till its answer is taken; the first empty one is next
	b := dToT(t, slotsOf(3))
	b.posts(by(0, put, "m"), by(1, put, "n"))
	for _, kind := range []int{claimed, claimed, begun, applied, applied, answered} {
		if _, err := b.post(by(0, get, "o")); err != api.ErrTwice {
			t.Errorf("ahead of %d: %v", kind, err)
		}
		b.steps(0, 0, kind)
	}
	if _, err := b.post(by(0, get, "o")); err != api.ErrTwice { // it is done, and not taken
		t.Errorf("done: %v", err)
	}
	b.take(0, 0, 7)
	for i, who := range []int{0, 5} {
		if at, err := b.post(by(who, get, "o")); at != 2*i || err != nil {
			t.Errorf("Post: %d, %v", at, err)
		}
	}
}

func TestTake(t *testing.T) { // P19.2: of each state of a slot, R3
	b := dToT(t, slotsOf(6))
	b.posts(by(0, put, "e"), by(1, put, "q"), by(2, put, "f"), by(3, get, "r"))
	b.must(b.set(frozen))
	if _, err := b.cut("p", 9); err != nil {
		t.Fatal(err)
	}
	b.must(b.set(open))
	b.steps(0, 0, redirected, redirected, claimed, claimed, begun, applied, applied, answered)
	b.posts(by(4, get, "g"))
	for _, x := range []struct {
		name           string
		i, client, seq int
		want           reply
		err            error
	}{
		{"no slot", -1, 0, 7, reply{}, api.ErrRange},
		{"no slot, far below", math.MinInt, 0, 7, reply{}, api.ErrRange},
		{"no slot, the next one", 6, 0, 7, reply{}, api.ErrRange},
		{"no slot, far behind", math.MaxInt, 0, 7, reply{}, api.ErrRange},
		{"empty", 5, 0, 0, reply{}, api.ErrNone},
		{"empty, another client", 5, 4, 7, reply{}, api.ErrNone},
		{"posted", 4, 4, 7, reply{}, api.ErrState},
		{"posted, another client", 4, 3, 7, reply{}, api.ErrNone},
		{"posted, another number", 4, 4, 8, reply{}, api.ErrNone},
		{"claimed", 2, 2, 7, reply{}, api.ErrState},
		{"claimed, another client", 2, 0, 7, reply{}, api.ErrNone},
		{"claimed, another number", 2, 2, 6, reply{}, api.ErrNone},
		{"done, another client", 0, 1, 7, reply{}, api.ErrNone},
		{"done, another number", 0, 0, 0, reply{}, api.ErrNone},
		{"done, numbers below 0", 0, -1, -1, reply{}, api.ErrNone},
		{"done", 0, 0, 7, reply{}, nil},
		{"done, taken", 0, 0, 7, reply{}, api.ErrNone},
		{"redirected, another client", 1, 0, 7, reply{}, api.ErrNone},
		{"redirected, another number", 1, 1, 8, reply{}, api.ErrNone},
		{"redirected", 1, 1, 7, reply{}, api.ErrStale},
		{"redirected, taken", 1, 1, 7, reply{}, api.ErrNone},
		{"another redirected one", 3, 3, 7, reply{}, api.ErrStale},
	} {
		if got, err := b.take(x.i, x.client, x.seq); got != x.want || err != x.err {
			t.Errorf("%s: %+v, %v, not %+v, %v", x.name, got, err, x.want, x.err)
		}
	}
	b.settle(0, 0)
	b.sweep()
}

func TestTakeTellsTheAnswer(t *testing.T) { // P19.2, P19.3: what was told when it was applied
	b := dToT(t, plain())
	b.fill("e", "f", "g")
	b.posts(by(0, put, "f"), by(1, scan, "e"), scanOf(2, "", "f", 1), by(3, swap, "g"))
	var told []deed
	for range 60 {
		_, l, err := b.step(0, 0)
		b.must(err)
		told = append(told, l...)
	}
	if len(told) != 4 {
		t.Fatalf("%+v", told)
	}
	for _, d := range told {
		i := d.ask.client
		if got, err := b.take(i, i, 7); got != d.reply || err != nil {
			t.Errorf("%d is told %+v, %v, not %+v", i, got, err, d.reply)
		}
	}
}
