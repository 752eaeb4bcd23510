package slot_test

import (
	"math"
	"strings"
	"testing"

	"garnet/api"
	"garnet/slot"
)

// Keys of MaxKey bytes and of one more, values of MaxVal bytes and of one more.
const (
	longA = "aaaaaaaaaaaaaaaa"
	overA = longA + "a"
	fullV = "vvvvvvvvvvvvvvvvvvvvvvvvvvvvvvvv"
	overV = fullV + "v"
)

// by is a request of a client, that may be.
func by(client, seq int) api.Req {
	return api.Req{Client: client, Seq: seq, Kind: get, Key: []byte("k")}
}

// reply is an answer in which nothing is zero.
func reply() api.Res {
	return api.Res{Code: 10, Found: true, Val: []byte("v"), Rows: []api.Pair{{Key: []byte("a"), Val: []byte("1")}, {Key: []byte("b")}}, Stamp: 9}
}

// way is how a slot comes to a state.
type way struct {
	name  string
	state int
	steps string
}

// ways is each way that leads to one of the five states, each step a call.
func ways() []way {
	return []way{
		{"empty at first", empty, ""},
		{"posted", posted, "p"},
		{"claimed", claimed, "pc"},
		{"done", done, "pca"},
		{"redirected when it was posted", redirected, "pr"},
		{"redirected when it was claimed", redirected, "pcr"},
		{"empty when it was done", empty, "pcat"},
		{"empty when it was redirected", empty, "prt"},
		{"posted anew when it was done", posted, "pcatp"},
		{"claimed anew when it was redirected", claimed, "pcrtpc"},
		{"done anew when it was done", done, "pcatpca"},
		{"redirected anew when it was done", redirected, "pcatpr"},
		{"empty anew, by both", empty, "pcatprt"},
	}
}

// walk goes a way with a client's request, which takes the slot i: those ahead
// of it aren't empty.
func (b both) walk(w way, i int, r api.Req) {
	b.t.Helper()
	for _, step := range w.steps {
		var err error
		switch step {
		case 'p':
			_, err = b.post(r)
		case 'c':
			err = b.claim(i)
		case 'a':
			err = b.answer(i, reply())
		case 'r':
			err = b.redirect(i)
		case 't':
			_, err = b.take(i, r.Client, r.Seq)
			if err == api.ErrStale {
				err = nil
			}
		}
		if err != nil {
			b.t.Fatalf("%s: step %c: %v", w.name, step, err)
		}
	}
	if got := b.s.State(i); got != w.state {
		b.t.Fatalf("%s: state %d", w.name, got)
	}
}

// between is three slots, of which the one between has gone a way with client
// 5's request 7; those beside it are client 1's and client 2's, posted.
func between(t *testing.T, w way) both {
	t.Helper()
	b := pairUp(t, 3)
	for _, client := range []int{1, 9, 2} {
		b.post(by(client, 7))
	}
	b.turnTo(1, empty)
	b.walk(w, 1, by(5, 7))
	return b
}

func eachWay(t *testing.T, f func(t *testing.T, b both, w way)) {
	for _, w := range ways() {
		t.Run(w.name, func(t *testing.T) { f(t, between(t, w), w) })
	}
}

func TestNumbers(t *testing.T) { // DOC.md, Words
	if api.MaxSlots != 32 || api.MaxKey != len(longA) || api.MaxVal != len(fullV) {
		t.Error("there are other limits")
	}
	for i, c := range []api.Code{api.ErrArg, api.ErrLarge, api.ErrNone, api.ErrTwice, api.ErrFull, api.ErrRange, api.ErrBusy, api.ErrStale, api.ErrGone, api.ErrState} {
		if int(c) != i+1 {
			t.Errorf("error %d is %d", i+1, int(c))
		}
	}
	for i, kind := range []int{api.OpGet, api.OpPut, api.OpDelete, api.OpAbsent, api.OpSwap, api.OpScan} {
		if kind != kinds()[i] {
			t.Errorf("kind %d is %d", kinds()[i], kind)
		}
	}
}

func TestNewWrong(t *testing.T) { // P14.1, R3, P1: no slots are told; of calls on none P1 asks nothing
	for _, n := range append(far(), -1, 0, 33, 34, 64, 1000) {
		if s, err := slot.New(n); s != nil || err != api.ErrArg {
			t.Errorf("New(%d): %v, %v", n, s, err)
		}
	}
}

func TestNew(t *testing.T) { // P14.1: of 1 to MaxSlots, all empty
	for n := 1; n <= 32; n++ {
		b := pairUp(t, n)
		if got := b.s.Len(); got != n {
			t.Errorf("Len of %d: %d", n, got)
		}
		for i := range n {
			if got := b.s.State(i); got != empty {
				t.Errorf("State(%d) of %d: %d", i, n, got)
			}
		}
		if i := b.s.First(empty); i != 0 {
			t.Errorf("First of empty ones, of %d: %d", n, i)
		}
	}
}

func TestSlotsAreApart(t *testing.T) { // P14.1: nothing is kept beside them
	a, b := pairUp(t, 2), pairUp(t, 2)
	a.post(by(1, 1))
	b.agree()
	b.post(by(2, 2))
	b.post(by(1, 1)) // no ErrTwice: the other one's is elsewhere
	a.claim(0)
	a.answer(0, reply())
	a.agree()
	b.agree()
}

func TestExample(t *testing.T) { // the chapter's: the answer; empty
	for _, n := range []int{1, 2, 32} {
		s := slots(t, n)
		i, err := s.Post(by(3, 7))
		if i != 0 || err != nil || s.State(0) != posted {
			t.Fatalf("Post: %d, %v, state %d", i, err, s.State(0))
		}
		if err := s.Claim(0); err != nil || s.State(0) != claimed {
			t.Fatalf("Claim: %v, state %d", err, s.State(0))
		}
		if err := s.Answer(0, reply()); err != nil || s.State(0) != done {
			t.Fatalf("Answer: %v, state %d", err, s.State(0))
		}
		if res, err := s.Take(0, 3, 7); err != nil || !sameRes(res, reply()) || s.State(0) != empty {
			t.Fatalf("Take: %+v, %v, state %d", res, err, s.State(0))
		}
	}
}

// fullReqs is a request of each kind in which nothing is zero that may not be.
func fullReqs() []api.Req {
	var l []api.Req
	for i, kind := range kinds() {
		r := api.Req{Client: 3 + i, Seq: 100 + i, Kind: kind, Key: []byte(longA), Val: []byte(fullV), Old: []byte("old"), To: []byte("b"), Limit: 7 + i}
		l = append(l, r)
	}
	return l
}

func TestEachKindOfRequest(t *testing.T) { // P14.2, P14.3: it is told whole, in each state, and its answer too
	b := pairUp(t, 6)
	for i, r := range fullReqs() {
		if at, err := b.post(r); at != i || err != nil {
			t.Fatalf("Post(%+v): %d, %v", r, at, err)
		}
	}
	for i, r := range fullReqs() {
		for _, call := range []func() error{
			func() error { return b.claim(i) },
			func() error { return b.answer(i, reply()) },
		} {
			if err := call(); err != nil {
				t.Fatalf("slot %d: %v", i, err)
			}
			if got, err := b.s.Req(i); err != nil || !sameReq(got, r) {
				t.Fatalf("Req(%d): %+v, %v, not %+v", i, got, err, r)
			}
		}
		if res, err := b.take(i, r.Client, r.Seq); err != nil || !sameRes(res, reply()) {
			t.Fatalf("Take(%d): %+v, %v", i, res, err)
		}
	}
}

func TestEdgesOfRequestsThatMayBe(t *testing.T) { // P14.2: zeros, and the greatest numbers
	for _, r := range []api.Req{
		{Kind: get, Key: []byte{0}},
		{Kind: scan, Limit: 1},
		{Client: math.MaxInt, Seq: math.MaxInt, Kind: put, Key: []byte(longA), Val: []byte(fullV), Old: []byte(fullV)},
		{Kind: get, Key: []byte("k"), To: []byte(strings.Repeat("z", 5000)), Limit: math.MinInt}, // neither is asked of a get
	} {
		b := pairUp(t, 1)
		if at, err := b.post(r); at != 0 || err != nil {
			t.Errorf("Post(%+v): %d, %v", r, at, err)
		}
		b.claim(0)
		b.answer(0, reply())
		if res, err := b.take(0, r.Client, r.Seq); err != nil || !sameRes(res, reply()) {
			t.Errorf("Take of %+v: %+v, %v", r, res, err)
		}
	}
}

func TestEachStateIsReached(t *testing.T) { // P14.1 to P14.3
	seen := map[int]int{}
	eachWay(t, func(t *testing.T, b both, w way) {
		if got := b.s.State(1); got != w.state {
			t.Errorf("state %d, not %d", got, w.state)
		}
		seen[w.state]++
	})
	for _, state := range states() {
		if seen[state] < 2 {
			t.Errorf("state %d was reached %d times", state, seen[state])
		}
	}
}

func TestStateWhereThereIsNoSlot(t *testing.T) { // P14.1, P1
	for _, n := range []int{1, 2, 31, 32} {
		b := pairUp(t, n)
		for range 2 {
			for _, i := range append(far(), -1, -n, n, n+1, 33) {
				if got := b.s.State(i); got != missing {
					t.Errorf("State(%d) of %d: %d", i, n, got)
				}
			}
			b.fill(n) // and once more, when none is empty
			if got := b.s.State(n - 1); got != posted {
				t.Errorf("State(%d) of %d: %d", n-1, n, got)
			}
		}
	}
}

// fill posts requests of clients 0, 1 and so on, up to as many.
func (b both) fill(n int) {
	b.t.Helper()
	for i := range n {
		b.post(by(i, 7))
	}
}

// turnTo turns a posted slot of fill to a state.
func (b both) turnTo(i, state int) {
	b.t.Helper()
	switch state {
	case empty:
		b.redirect(i)
		b.take(i, b.m[i].req.Client, b.m[i].req.Seq)
	case claimed:
		b.claim(i)
	case done:
		b.claim(i)
		b.answer(i, reply())
	case redirected:
		b.redirect(i)
	}
}

func TestFirst(t *testing.T) { // P14.1: at each place, none ahead of it, and others behind
	for _, n := range []int{1, 2, 3, 32} {
		for _, state := range states() {
			for _, beside := range states() {
				for at := range n {
					if beside == state {
						continue
					}
					b := pairUp(t, n)
					b.fill(n)
					for i := range n {
						if i == at || i > at && i%2 == 0 {
							b.turnTo(i, state)
						} else {
							b.turnTo(i, beside)
						}
					}
					if got := b.s.First(state); got != at {
						t.Fatalf("of %d slots the first of state %d: %d, not %d", n, state, got, at)
					}
				}
			}
		}
	}
}

func TestFirstOfNone(t *testing.T) { // P14.1: of a state that no slot has, and of what is no state
	for _, n := range []int{1, 3, 32} {
		for _, state := range states() {
			b := pairUp(t, n)
			b.fill(n)
			for i := range n {
				b.turnTo(i, state)
			}
			for _, other := range append(append(far(), states()...), -1, 5, 6) {
				want := -1
				if other == state {
					want = 0
				}
				if got := b.s.First(other); got != want {
					t.Errorf("all of %d are of state %d: First(%d) is %d", n, state, other, got)
				}
			}
		}
	}
}

// wrongReqs is requests that may not be, all of client 1 but for the first ones.
func wrongReqs() []api.Req {
	l := []api.Req{{}, {Client: -1, Kind: get, Key: []byte("k")}, {Client: math.MinInt, Kind: get, Key: []byte("k")}}
	for _, r := range []api.Req{
		{Seq: -1, Kind: get, Key: []byte("k")},
		{Kind: 0, Key: []byte("k")},
		{Kind: 7, Key: []byte("k")},
		{Kind: -1, Key: []byte("k")},
		{Kind: get},
		{Kind: put, Key: []byte(overA)},
		{Kind: put, Key: []byte("k"), Val: []byte(overV)},
		{Kind: swap, Key: []byte("k"), Old: []byte(overV)},
		{Kind: scan},
		{Kind: scan, Limit: 101},
		{Kind: scan, Key: []byte("b"), To: []byte("a"), Limit: 9},
		{Kind: scan, Key: []byte("b"), To: []byte(overA), Limit: 9},
	} {
		r.Client = 1
		l = append(l, r)
	}
	return l
}

func TestPostWhatMayNotBe(t *testing.T) { // P14.2: it is named ahead of ErrTwice and ErrFull
	for _, r := range wrongReqs() {
		b := pairUp(t, 2)
		b.post(by(9, 0))
		if at, err := b.post(r); at != 0 || err != api.ErrArg {
			t.Errorf("one is empty: Post(%+v): %d, %v", r, at, err)
		}
		for _, state := range []int{posted, claimed, done, redirected} {
			b := pairUp(t, 2) // none is empty, and client 1 has one
			b.fill(2)
			b.turnTo(0, state)
			b.turnTo(1, state)
			if at, err := b.post(r); at != 0 || err != api.ErrArg {
				t.Errorf("none is empty: Post(%+v): %d, %v", r, at, err)
			}
		}
	}
}

func TestPostTwice(t *testing.T) { // P14.2: in each state but empty, and ahead of ErrFull
	eachWay(t, func(t *testing.T, b both, w way) {
		for _, seq := range []int{7, 8, 0, 6} {
			for _, kind := range kinds() {
				r := by(5, seq)
				r.Kind, r.Limit = kind, 1
				at, err := b.s.Post(r)
				if w.state != empty && (at != 0 || err != api.ErrTwice) {
					t.Errorf("number %d, kind %d: %d, %v", seq, kind, at, err)
				}
				if w.state == empty && (at != 1 || err != nil) {
					t.Errorf("number %d, kind %d, which it hasn't any more: %d, %v", seq, kind, at, err)
				}
				if w.state == empty {
					b.s.Redirect(1)
					b.s.Take(1, 5, seq)
				}
				b.agree()
			}
		}
		if at, err := b.post(by(8, 7)); w.state != empty && (at != 0 || err != api.ErrFull) {
			t.Errorf("of a client that has none there: %d, %v", at, err)
		}
	})
}

func TestPostTwiceWhereOthersAreEmpty(t *testing.T) { // P14.2: at whichever place it is
	for at := range 32 {
		for _, state := range []int{posted, claimed, done, redirected} {
			b := pairUp(t, 32)
			b.fill(32)
			for i := range 32 {
				if i == at {
					b.turnTo(i, state)
				} else if i%3 > 0 {
					b.turnTo(i, empty)
				}
			}
			for seq := range 10 {
				if got, err := b.post(by(at, seq)); got != 0 || err != api.ErrTwice {
					t.Fatalf("client %d, state %d, number %d: %d, %v", at, state, seq, got, err)
				}
			}
		}
	}
}

func TestClientsThatLookAlike(t *testing.T) { // P14.2, P14.3: numbers are held against each other whole
	clients := []int{5, 5 + 1<<8, 5 + 1<<16, 5 + 1<<31, 5 + 1<<32, 5 + 1<<62, math.MaxInt}
	b := pairUp(t, len(clients))
	for i, client := range clients {
		if at, err := b.post(by(client, client)); at != i || err != nil {
			t.Errorf("Post of client %d: %d, %v", client, at, err)
		}
		b.redirect(i)
	}
	for i, client := range clients {
		for _, other := range clients {
			b.post(by(other, 0))
			if other != client {
				b.take(i, other, client)
				b.take(i, client, other)
			}
		}
		if res, err := b.take(i, client, client); err != api.ErrStale || !sameRes(res, api.Res{}) {
			t.Errorf("Take of client %d: %+v, %v", client, res, err)
		}
		b.post(by(client, client))
	}
}

func TestPostWhenNoneIsEmpty(t *testing.T) { // P14.2: whatever state they are in
	for n := 1; n <= 32; n++ {
		for turn := range 4 {
			b := pairUp(t, n)
			b.fill(n)
			for i := range n {
				b.turnTo(i, 1+(i+turn)%4)
			}
			for _, client := range []int{n, n + 1, 100, math.MaxInt} {
				if at, err := b.post(by(client, 7)); at != 0 || err != api.ErrFull {
					t.Errorf("of %d: %d, %v", n, at, err)
				}
			}
		}
	}
}

func TestTheFirstEmptyOneIsPosted(t *testing.T) { // P14.2: when ones ahead of others were emptied again
	for _, n := range []int{1, 2, 3, 5, 32} {
		for at := range n {
			b := pairUp(t, n)
			b.fill(n)
			for i := n - 1; i >= at; i-- { // the least one is emptied last, some in between stay
				if i == at || (i-at)%3 != 1 {
					b.turnTo(i, empty)
				}
			}
			client := 50
			for i := at; i < n; i++ {
				if i != at && (i-at)%3 == 1 {
					continue
				}
				if got, err := b.post(by(client, 0)); got != i || err != nil {
					t.Fatalf("of %d, emptied from %d on: %d, %v, not %d", n, at, got, err, i)
				}
				client++
			}
			if got, err := b.post(by(client, 0)); got != 0 || err != api.ErrFull {
				t.Fatalf("of %d: %d, %v", n, got, err)
			}
		}
	}
}

func TestClientZeroNumberZero(t *testing.T) { // P14.2, P14.3: an empty slot has no request
	for _, first := range []string{"", "pcat", "prt", "pcrt"} {
		b := pairUp(t, 2)
		b.walk(way{"of client 0", empty, first}, 0, by(0, 0))
		for i := range 2 {
			if res, err := b.take(i, 0, 0); err != api.ErrNone || !sameRes(res, api.Res{}) {
				t.Errorf("Take(%d) when it is empty: %+v, %v", i, res, err)
			}
		}
		if at, err := b.post(by(0, 0)); at != 0 || err != nil {
			t.Fatalf("Post: %d, %v", at, err)
		}
		if at, err := b.post(by(0, 0)); at != 0 || err != api.ErrTwice {
			t.Errorf("Post: %d, %v", at, err)
		}
		if at, err := b.post(by(1, 0)); at != 1 || err != nil {
			t.Errorf("Post of another one: %d, %v", at, err)
		}
		if res, err := b.take(0, 0, 0); err != api.ErrState || !sameRes(res, api.Res{}) {
			t.Errorf("Take when it is posted: %+v, %v", res, err)
		}
	}
}

func TestCallsWhereThereIsNoSlot(t *testing.T) { // P14.3, R3, P1
	for _, n := range []int{1, 3, 32} {
		for _, state := range states() {
			b := pairUp(t, n)
			b.fill(n)
			for i := range n {
				b.turnTo(i, state)
			}
			for _, i := range append(far(), -1, -n, n, n+1, 33) {
				if r, err := b.s.Req(i); err != api.ErrRange || !sameReq(r, api.Req{}) {
					t.Errorf("Req(%d): %+v, %v", i, r, err)
				}
				for _, err := range []error{b.s.Claim(i), b.s.Answer(i, reply()), b.s.Redirect(i)} {
					if err != api.ErrRange {
						t.Errorf("slot %d of %d: %v", i, n, err)
					}
				}
				for _, who := range [][2]int{{0, 7}, {0, 0}, {-1, -1}, {n - 1, 7}} {
					if res, err := b.s.Take(i, who[0], who[1]); err != api.ErrRange || !sameRes(res, api.Res{}) {
						t.Errorf("Take(%d, %d, %d): %+v, %v", i, who[0], who[1], res, err)
					}
				}
				b.agree()
			}
		}
	}
}

// turn is what a call tells, and what the slot's state is then.
type turn struct {
	err  error
	then int
}

// turnOf is chapter 14's turn of a call, on a slot of a state.
func turnOf(name string, state int) turn {
	switch {
	case name == "Req" && state == empty:
		return turn{api.ErrNone, empty}
	case name == "Req":
		return turn{nil, state}
	case name == "Claim" && state == posted:
		return turn{nil, claimed}
	case name == "Answer" && state == claimed:
		return turn{nil, done}
	case name == "Redirect" && (state == posted || state == claimed):
		return turn{nil, redirected}
	case name == "Take" && state == empty:
		return turn{api.ErrNone, empty}
	case name == "Take" && state == done:
		return turn{nil, empty}
	case name == "Take" && state == redirected:
		return turn{api.ErrStale, empty}
	}
	return turn{api.ErrState, state}
}

func TestEachCallInEachState(t *testing.T) { // P14.3: what it tells, and that nothing else has turned
	calls := map[string]func(s *slot.Slots) error{
		"Req":      func(s *slot.Slots) error { _, err := s.Req(1); return err },
		"Claim":    func(s *slot.Slots) error { return s.Claim(1) },
		"Answer":   func(s *slot.Slots) error { return s.Answer(1, api.Res{Code: 3}) },
		"Redirect": func(s *slot.Slots) error { return s.Redirect(1) },
		"Take":     func(s *slot.Slots) error { _, err := s.Take(1, 5, 7); return err },
	}
	for name, call := range calls {
		eachWay(t, func(t *testing.T, b both, w way) {
			want := turnOf(name, w.state)
			if err := call(b.s); err != want.err || b.s.State(1) != want.then {
				t.Errorf("%s: %v, state %d, not %+v", name, err, b.s.State(1), want)
			}
			if b.m[1].state = want.then; want.then == empty {
				b.m[1] = place{}
			}
			b.agree()
			if w.state == done && want.then == done { // the answer is still the one that was given
				b.take(1, 5, 7)
			}
		})
	}
}

func TestTakeByAnotherOne(t *testing.T) { // P14.3: ErrNone is named ahead of ErrState and ErrStale
	eachWay(t, func(t *testing.T, b both, w way) {
		for _, who := range [][2]int{
			{6, 7}, {4, 7}, {0, 7}, {-5, 7}, {1, 7}, {2, 7}, {math.MaxInt, 7}, {math.MinInt, 7}, // another client
			{5, 8}, {5, 6}, {5, 0}, {5, -7}, {5, math.MaxInt}, {5, math.MinInt}, // another number
			{6, 8}, {7, 5}, {0, 0}, {-1, -1}, {1<<32 + 5, 7}, {5, 1<<32 + 7}, // both, or far
		} {
			if res, err := b.take(1, who[0], who[1]); err != api.ErrNone || !sameRes(res, api.Res{}) {
				t.Errorf("Take(1, %d, %d): %+v, %v", who[0], who[1], res, err)
			}
			if got := b.s.State(1); got != w.state {
				t.Errorf("Take(1, %d, %d): state %d", who[0], who[1], got)
			}
		}
		want, res := map[int]error{empty: api.ErrNone, posted: api.ErrState, claimed: api.ErrState, redirected: api.ErrStale}, api.Res{}
		if w.state == done {
			res = reply()
		}
		if got, err := b.take(1, 5, 7); err != want[w.state] || !sameRes(got, res) {
			t.Errorf("Take(1, 5, 7): %+v, %v", got, err)
		}
	})
}

func TestTakeTwice(t *testing.T) { // P14.3, P14.5
	eachWay(t, func(t *testing.T, b both, w way) {
		b.take(1, 5, 7)
		res, err := b.take(1, 5, 7)
		want := error(api.ErrNone)
		if w.state == posted || w.state == claimed {
			want = api.ErrState
		}
		if err != want || !sameRes(res, api.Res{}) {
			t.Errorf("%+v, %v, not %v", res, err, want)
		}
	})
}

func TestTakeAtAnotherPlace(t *testing.T) { // P14.3, P14.5: of one's own number, where another one's request is
	b := pairUp(t, 3)
	for i, client := range []int{4, 5, 6} {
		b.post(by(client, 7))
		b.claim(i)
		b.answer(i, api.Res{Code: client})
	}
	for i, client := range []int{4, 5, 6} {
		for j := range 3 {
			if res, err := b.take((i+j+1)%3, client, 7); j < 2 && (err != api.ErrNone || !sameRes(res, api.Res{})) {
				t.Errorf("client %d at slot %d: %+v, %v", client, (i+j+1)%3, res, err)
			} else if j == 2 && (err != nil || res.Code != client) {
				t.Errorf("client %d at its own: %+v, %v", client, res, err)
			}
		}
	}
}

func TestAnswersAreToldAsTheyWereGiven(t *testing.T) { // P14.3: whatever they are
	many := make([]api.Pair, 1000)
	for i := range many {
		many[i] = api.Pair{Key: []byte{byte(i >> 8), byte(i)}, Val: []byte(fullV)}
	}
	for _, a := range []api.Res{
		{}, {Found: true}, {Code: 1}, {Code: -1}, {Code: math.MaxInt}, {Code: math.MinInt}, {Stamp: math.MaxUint64},
		{Val: []byte("v")}, {Val: []byte(strings.Repeat("v", 5000))}, {Found: true, Val: []byte{}}, {Rows: []api.Pair{}},
		{Rows: []api.Pair{{}}}, {Rows: []api.Pair{{}, {}}}, {Rows: []api.Pair{{Key: []byte("b")}, {Key: []byte("a"), Val: []byte("1")}}},
		{Rows: many, Stamp: 1}, reply(),
	} {
		b := pairUp(t, 2)
		for i := range 2 { // the second one's slot had another answer
			b.post(by(i, 0))
			b.claim(i)
			b.answer(i, reply())
			b.take(i, i, 0)
			b.post(by(i, 1))
			b.claim(i)
			b.answer(i, a)
		}
		for i := range 2 {
			if res, err := b.take(i, i, 1); err != nil || !sameRes(res, a) {
				t.Errorf("%+v, %v, not %+v", res, err, a)
			}
		}
	}
}

func TestNothingIsLeftOfWhatWasTaken(t *testing.T) { // P14.3, P14.5: an answer of nothing is told behind another one
	b := pairUp(t, 1)
	full := fullReqs()[4]
	b.walk(way{"taken", empty, "pcat"}, 0, full)
	b.post(by(full.Client, full.Seq))
	if r, err := b.s.Req(0); err != nil || !sameReq(r, by(full.Client, full.Seq)) {
		t.Errorf("Req: %+v, %v", r, err)
	}
	b.claim(0)
	b.redirect(0)
	if res, err := b.take(0, full.Client, full.Seq); err != api.ErrStale || !sameRes(res, api.Res{}) {
		t.Errorf("Take of a redirected one: %+v, %v", res, err)
	}
	b.post(by(0, 0))
	b.claim(0)
	b.answer(0, api.Res{})
	if res, err := b.take(0, 0, 0); err != nil || !sameRes(res, api.Res{}) {
		t.Errorf("Take: %+v, %v", res, err)
	}
}

func TestAllArguments(t *testing.T) { // P1: of each state, with any numbers and lists
	huge := []byte(strings.Repeat("h", 1<<16))
	for _, w := range ways() {
		b := pairUp(t, 2)
		b.walk(w, 0, by(5, 7))
		for _, i := range append(far(), -1, 0, 1, 2) {
			b.s.State(i)
			b.s.First(i)
			b.s.Req(i)
			for _, n := range append(far(), -1, 0, 5, 7) {
				b.s.Take(i, n, i)
				b.s.Take(i, 5, n)
				b.s.Post(api.Req{Client: n, Seq: i, Kind: n, Key: huge, Val: huge, Old: huge, To: huge, Limit: n})
				b.s.Post(api.Req{Client: i, Seq: n, Kind: scan, Limit: n})
				b.s.Post(api.Req{Client: i, Seq: n, Kind: put, Key: []byte("k"), To: huge, Limit: n})
				b.s.Claim(i)
				b.s.Answer(i, api.Res{Code: n, Val: huge, Rows: []api.Pair{{Key: huge, Val: huge}, {}}})
				b.s.Redirect(n)
			}
		}
		for i := range b.s.Len() {
			if state := b.s.State(i); state < empty || state > redirected {
				t.Errorf("%s: State(%d): %d", w.name, i, state)
			}
		}
	}
}
