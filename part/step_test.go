package part_test

import (
	"math"
	"slices"
	"strings"
	"testing"

	"garnet/api"
)

func TestAppliedAheadOfAnswered(t *testing.T) { // the chapter's list: all groups first, then answer by answer
	b := dToT(t, plain())
	b.posts(by(0, put, "f"), by(1, put, "e"), by(2, get, "f"), by(3, scan, "d"))
	b.steps(0, 0, claimed, claimed, claimed, claimed, begun)
	for _, want := range [][]int{{3}, {1}, {0, 2}} { // by rising keys
		if l := clients(b.applies(0, 0)); !slices.Equal(l, want) {
			t.Errorf("applied: %v, not %v", l, want)
		}
	}
	for _, i := range []int{3, 1, 0, 2} {
		if _, err := b.take(i, i, 7); err != api.ErrState {
			t.Errorf("not answered: %v", err)
		}
		b.steps(0, 0, answered)
		if _, err := b.take(i, i, 7); err != nil {
			t.Errorf("answered: %v", err)
		}
	}
	b.steps(0, 0, idle, idle)
}

func TestAnsweredAheadOfClaimed(t *testing.T) { // and Claimed ahead of Begun, and Applied ahead of Claimed
	late := []int{claimed, begun, applied, answered, claimed, begun, applied, answered, idle}
	both := []int{claimed, claimed, begun, applied, answered, answered, idle}
	for at, want := range [][]int{both, both, late, late, late} { // one more is posted behind so many micro-steps
		b := dToT(t, plain())
		b.posts(by(0, put, "e"))
		b.steps(0, 0, want[:at]...)
		b.posts(by(1, put, "e"))
		b.steps(0, 0, want[at:]...)
		for i := range 2 {
			if _, err := b.take(i, i, 7); err != nil {
				t.Errorf("posted behind %d: %v", at, err)
			}
		}
	}
}

// cutOff is a partition of d to m, of so many slots, cut from d to t, with
// posted requests.
func cutOff(t *testing.T, n int, l ...ask) *both {
	t.Helper()
	b := dToT(t, slotsOf(n))
	b.posts(l...)
	b.must(b.set(frozen))
	if _, err := b.cut("m", 4); err != nil {
		t.Fatal(err)
	}
	return b
}

func TestRedirectedAheadOfClaimed(t *testing.T) { // the first one that doesn't fit, wherever others stand
	b := cutOff(t, 5, by(0, put, "e"), by(1, put, "m"), by(2, put, "f"), by(3, put, "r"), by(4, scan, "g"))
	b.must(b.set(open))
	for _, i := range []int{1, 3} {
		if _, err := b.take(i, i, 7); err != api.ErrState {
			t.Errorf("not redirected: %v", err)
		}
		b.steps(0, 0, redirected)
		if _, err := b.take(i, i, 7); err != api.ErrStale {
			t.Errorf("redirected: %v", err)
		}
	}
	b.steps(0, 0, claimed, claimed, claimed, begun, applied, applied, applied, answered, answered, answered, idle)
}

func TestScansThatDoNotFitAreRedirected(t *testing.T) { // by their ranges, not by where they begin
	b := cutOff(t, 6, scanOf(0, "m", "", 5), scanOf(1, "f", "z", 5), scanOf(2, "n", "o", 5), scanOf(3, "a", "e", 5), scanOf(4, "l", "m", 5), by(5, get, "m"))
	b.must(b.set(open))
	b.steps(1, 3, redirected, redirected, redirected, claimed, claimed, claimed, begun)
	for i, want := range []error{api.ErrStale, api.ErrState, api.ErrStale, api.ErrState, api.ErrState, api.ErrStale} {
		if _, err := b.take(i, i, 7); err != want {
			t.Errorf("scan %d: %v, not %v", i, err, want)
		}
	}
}

func TestClaimedIsTheFirst(t *testing.T) { // by slots, whatever was posted first
	b := dToT(t, slotsOf(3))
	b.posts(by(0, put, "e"))
	b.steps(0, 0, claimed, begun, applied, answered, idle)
	b.posts(by(1, put, "f"), by(2, put, "g"))
	b.take(0, 0, 7)
	b.posts(by(3, put, "h")) // in slot 0, and posted last
	b.steps(0, 0, claimed)
	b.must(b.set(closing))
	b.steps(0, 0, begun)
	if l := clients(b.applies(0, 0)); !slices.Equal(l, []int{3}) {
		t.Errorf("claimed: %v", l)
	}
	b.steps(0, 0, answered, idle)
	b.must(b.set(open))
	b.steps(0, 0, claimed)
	b.must(b.set(closing))
	b.steps(0, 0, begun)
	if l := clients(b.applies(0, 0)); !slices.Equal(l, []int{1}) {
		t.Errorf("claimed then: %v", l)
	}
}

func TestBegunRisingBySlots(t *testing.T) { // of one key they are applied so, whatever was posted first
	b := dToT(t, slotsOf(4))
	b.posts(by(0, put, "e"), by(1, put, "e"))
	b.steps(0, 0, claimed, claimed, begun, applied, answered, answered, idle)
	b.posts(by(2, put, "k"), by(3, scan, "k"))
	b.take(1, 1, 7)
	b.posts(by(4, get, "k")) // slot 1
	b.take(0, 0, 7)
	b.posts(by(5, del, "k")) // slot 0
	b.steps(0, 0, claimed, claimed, claimed, claimed, begun)
	if l := clients(b.applies(0, 0)); !slices.Equal(l, []int{5, 4, 2}) {
		t.Errorf("applied: %v", l)
	}
	if l := clients(b.applies(0, 0)); !slices.Equal(l, []int{3}) {
		t.Errorf("applied: %v", l)
	}
}

func TestClaimedUpToMaxBatch(t *testing.T) { // all of them are begun
	for _, keys := range []int{1, 2, 31, 32} {
		b := pairUp(t, 0, span{}, slotsOf(32))
		for i := range 32 {
			b.posts(by(i, absent, names(keys)[i%keys]))
		}
		b.steps(2, 9, slices.Repeat([]int{claimed}, 32)...)
		if !b.p.Work() || b.p.Quiet() {
			t.Errorf("claimed: Work %v, Quiet %v", b.p.Work(), b.p.Quiet())
		}
		b.steps(2, 9, begun)
		groups := 0
		for many := 0; many < 32; groups++ {
			many += len(b.applies(2, 9))
		}
		if groups != keys {
			t.Errorf("%d keys are %d groups", keys, groups)
		}
		b.steps(2, 9, slices.Repeat([]int{answered}, 32)...)
		b.steps(2, 9, idle)
	}
}

func TestWorkAndQuiet(t *testing.T) { // P19.1: posted is work; claimed, begun and applied aren't quiet; done is neither
	b := dToT(t, plain())
	look := func(when string, work, quiet bool) {
		t.Helper()
		if b.p.Work() != work || b.p.Quiet() != quiet {
			t.Errorf("%s: Work %v, Quiet %v", when, b.p.Work(), b.p.Quiet())
		}
	}
	look("new", false, true)
	b.posts(by(0, put, "e"), by(1, put, "f"))
	look("posted", true, true)
	b.steps(0, 0, claimed)
	look("one is claimed", true, false)
	b.steps(0, 0, claimed)
	look("claimed", true, false)
	b.steps(0, 0, begun)
	look("begun", true, false)
	b.steps(0, 0, applied, applied)
	look("applied", true, false)
	b.steps(0, 0, answered)
	look("one is answered", true, false)
	b.steps(0, 0, answered)
	look("answered", false, true)
	b.steps(0, 0, idle)
	look("idle", false, true)
	b.posts(by(2, put, "g"))
	look("posted beside what is done", true, true)
	b.must(b.set(frozen))
	look("frozen", true, true)
	b.must(b.set(gone))
	look("gone", true, true)
	b.redirect()
	look("redirected", false, true)
}

func TestIdleReleases(t *testing.T) { // another one may go on at once, and each time the epoch is one more
	b := dToT(t, plain())
	for i := range 6 {
		b.steps(i%3, 2, idle)
		if e := b.p.Epoch(); e != uint64(i+1) {
			t.Errorf("Epoch: %d behind %d", e, i+1)
		}
	}
	b.steps(2, 2, idle)
	if e := b.p.Epoch(); e != 7 { // the same one, too
		t.Errorf("Epoch: %d", e)
	}
	b.posts(by(0, put, "e"))
	b.steps(0, 2, claimed, begun, applied, answered, idle)
	if e := b.p.Epoch(); e != 8 {
		t.Errorf("Epoch: %d", e)
	}
}

func TestNobodyElseWhileItIsHeld(t *testing.T) { // P19.3, P19.7: and each micro-step renews
	b := dToT(t, plain())
	b.posts(by(0, put, "e"), by(1, put, "f"))
	for i, kind := range []int{claimed, claimed, begun, applied, applied, answered, answered} {
		now := int64(4 * i)
		b.steps(3, now, kind)
		for _, w := range []int{0, 1, 2, 4, 15, 1<<32 + 3, math.MaxInt} {
			for _, at := range []int64{0, now, now + 1, now + 4} {
				if kind, l, err := b.step(w, at); kind != 0 || len(l) > 0 || err != api.ErrBusy {
					t.Fatalf("%d at tick %d: %d, %v, %v", w, at, kind, l, err)
				}
			}
		}
	}
	b.steps(3, 28, idle)
	b.steps(0, 0, idle)
}

func TestWhoGoesOnAtTheJournal(t *testing.T) { // P19.3, P19.7: another one takes over at each place
	whole := []int{claimed, claimed, begun, applied, applied, answered, answered, idle}
	for at := 1; at < len(whole); at++ {
		b := dToT(t, plain())
		b.posts(by(0, put, "e"), by(1, put, "f"))
		b.steps(0, 10, whole[:at]...)
		if _, _, err := b.step(1, 14); err != api.ErrBusy {
			t.Errorf("still held: %v", err)
		}
		b.steps(1, 15, whole[at])
		if e := b.p.Epoch(); e != 2 {
			t.Errorf("taken over at %d: epoch %d", at, e)
		}
		if at < len(whole)-1 {
			if _, _, err := b.step(0, 15); err != api.ErrBusy {
				t.Errorf("taken over: %v", err)
			}
			b.steps(1, 16, whole[at+1:]...)
		}
		for i := range 2 {
			if got, err := b.take(i, i, 7); got != (reply{}) || err != nil {
				t.Errorf("taken over at %d: %+v, %v", at, got, err)
			}
		}
		if n := b.p.Stamp(); n != 2 {
			t.Errorf("taken over at %d: stamp %d", at, n)
		}
	}
}

func TestOneTakesOverAgainAndAgain(t *testing.T) { // each micro-step another worker's
	b := dToT(t, plain())
	b.posts(by(0, put, "e"), by(1, put, "f"))
	for i, kind := range []int{claimed, claimed, begun, applied, applied, answered, answered, idle} {
		b.steps(i, int64(5*i), kind)
		if e := b.p.Epoch(); e != uint64(i+1) {
			t.Errorf("Epoch: %d", e)
		}
	}
}

func TestTheSameOneBehindItsTime(t *testing.T) { // nobody took over: the epoch stays
	b := dToT(t, plain())
	b.posts(by(0, put, "e"))
	for i, kind := range []int{claimed, begun, applied, answered, idle} {
		b.steps(3, int64(100*i), kind)
	}
	if e := b.p.Epoch(); e != 1 {
		t.Errorf("Epoch: %d", e)
	}
}

func TestStepWrong(t *testing.T) { // P19.3: lease.Take's errors, nothing has turned, and nothing is held
	b := dToT(t, plain())
	b.posts(by(0, put, "e"))
	for _, w := range []int{-1, -2, math.MinInt} {
		for _, now := range []int64{0, 5, 1 << 40, -1} {
			if kind, l, err := b.step(w, now); kind != 0 || len(l) > 0 || err != api.ErrArg {
				t.Errorf("Step(%d, %d): %d, %v, %v", w, now, kind, l, err)
			}
		}
	}
	for _, now := range []int64{-1, math.MinInt64, 1<<40 + 1, math.MaxInt64} {
		if kind, l, err := b.step(0, now); kind != 0 || len(l) > 0 || err != api.ErrArg {
			t.Errorf("Step(0, %d): %d, %v, %v", now, kind, l, err)
		}
	}
	b.steps(7, 1<<40, claimed)
	if _, _, err := b.step(-1, 0); err != api.ErrArg { // ahead of ErrBusy
		t.Errorf("Step(-1, 0), held: %v", err)
	}
	if _, _, err := b.step(0, 1<<40+1); err != api.ErrArg {
		t.Errorf("Step behind MaxTime, held: %v", err)
	}
	b.steps(7, 0, begun, applied, answered, idle)
}

func TestStepErrorsInOrder(t *testing.T) { // P19.3: ErrGone, ErrBusy of what is frozen, lease.Take's
	for _, x := range []struct {
		state int
		want  error
	}{{frozen, api.ErrBusy}, {gone, api.ErrGone}} {
		b := dToT(t, plain())
		b.posts(by(0, put, "e"))
		b.steps(0, 0, claimed, begun, applied, answered) // its lease is still held
		b.posts(by(1, put, "e"))
		b.must(b.set(x.state))
		for _, w := range []int{-1, 0, 1, math.MinInt} {
			for _, now := range []int64{-1, 0, 4, 5, 100, 1<<40 + 1} {
				if kind, l, err := b.step(w, now); kind != 0 || len(l) > 0 || err != x.want {
					t.Errorf("state %d: Step(%d, %d): %d, %v, %v", x.state, w, now, kind, l, err)
				}
			}
		}
		if e := b.p.Epoch(); e != 1 {
			t.Errorf("state %d: epoch %d", x.state, e)
		}
		if x.state == frozen { // no error has taken the lease, nor renewed it
			b.must(b.set(open))
			if _, _, err := b.step(1, 4); err != api.ErrBusy {
				t.Errorf("open again: %v", err)
			}
			b.steps(1, 5, claimed)
		}
	}
}

func TestBusyDoesNotRenew(t *testing.T) { // P19.3: an error turns nothing
	b := dToT(t, plain())
	b.posts(by(0, put, "e"))
	b.steps(0, 0, claimed)
	for now := range int64(5) {
		if _, _, err := b.step(1, now); err != api.ErrBusy {
			t.Errorf("tick %d: %v", now, err)
		}
	}
	b.steps(1, 5, begun)
}

func TestClosing(t *testing.T) { // it redirects and claims nothing, but does what is claimed
	for n := range 4 { // so many are claimed
		b := dToT(t, plain())
		b.posts(by(0, put, "e"), by(1, put, "f"), by(2, put, "g"), by(3, put, "h"))
		b.steps(0, 0, slices.Repeat([]int{claimed}, n)...)
		b.must(b.set(closing))
		if n > 0 {
			b.steps(0, 0, begun)
			b.steps(0, 0, slices.Repeat([]int{applied}, n)...)
			b.steps(0, 0, slices.Repeat([]int{answered}, n)...)
		}
		b.steps(0, 0, idle, idle)
		if !b.p.Quiet() || !b.p.Work() || len(b.p.Pairs()) != n {
			t.Errorf("%d claimed: Quiet %v, Work %v, %v", n, b.p.Quiet(), b.p.Work(), b.p.Pairs())
		}
		b.steps(1, 0, idle) // and the lease is released
	}
}

func TestClosingInTheMiddleOfABatch(t *testing.T) { // at each place of it
	whole := []int{claimed, claimed, begun, applied, applied, answered, answered, idle}
	for at := 2; at < len(whole); at++ {
		b := dToT(t, plain())
		b.posts(by(0, put, "e"), by(1, put, "f"))
		b.steps(0, 0, whole[:at]...)
		b.must(b.set(closing))
		b.posts(by(2, put, "g"))
		b.steps(0, 0, whole[at:]...)
		b.steps(0, 0, idle)
		b.must(b.set(open))
		b.steps(0, 0, claimed, begun, applied, answered, idle)
	}
}

func TestClosingRedirectsNothing(t *testing.T) {
	b := cutOff(t, 3, by(0, put, "r"), by(1, put, "e"))
	b.must(b.set(closing))
	b.steps(0, 0, idle, idle)
	b.must(b.set(open))
	b.steps(0, 0, redirected, claimed, begun, applied, answered, idle)
}

func TestScanIsApplied(t *testing.T) { // Rows of what both ranges have in common, the first ones, and Stamp
	rows := func(keys ...string) string { return rowText(keys, func(k string) string { return "v" + k }) }
	for _, x := range []struct {
		name     string
		from, to string
		limit    int
		want     string
	}{
		{"all", "", "", 100, rows("d", "e", "f", "m", "sz")},
		{"just it", "d", "t", 100, rows("d", "e", "f", "m", "sz")},
		{"around it", "a", "z", 100, rows("d", "e", "f", "m", "sz")},
		{"within it", "e", "m", 100, rows("e", "f")},
		{"within it, without an end", "e", "", 100, rows("e", "f", "m", "sz")},
		{"across its From", "a", "f", 100, rows("d", "e")},
		{"across its To", "f", "z", 100, rows("f", "m", "sz")},
		{"between", "g", "h", 100, ""},
		{"a key alone", "f", "f\x00", 100, rows("f")},
		{"just behind a key", "f\x00", "m", 100, ""},
		{"as many as Limit", "", "", 5, rows("d", "e", "f", "m", "sz")},
		{"one fewer", "", "", 4, rows("d", "e", "f", "m")},
		{"one", "", "", 1, rows("d")},
		{"one within it", "e\x00", "", 1, rows("f")},
		{"one, across its From", "a", "z", 1, rows("d")},
	} {
		b := dToT(t, plain())
		b.fill("m", "e", "d", "sz", "f")
		was := textOf(b.p.Pairs())
		b.posts(scanOf(0, x.from, x.to, x.limit))
		b.steps(0, 0, claimed, begun)
		if l := b.applies(0, 0); len(l) != 1 || l[0].reply != (reply{rows: x.want, stamp: 5}) {
			t.Errorf("%s: %+v, not %s", x.name, l, x.want)
		}
		if b.p.Stamp() != 5 || textOf(b.p.Pairs()) != was {
			t.Errorf("%s: stamp %d, %q", x.name, b.p.Stamp(), b.p.Pairs())
		}
	}
}

func TestScanOfManyRows(t *testing.T) { // up to MaxRows, leaf by leaf
	for _, order := range []int{3, 4, 16} {
		b := pairUp(t, 0, span{"d", "t"}, api.Config{Slots: 32, Order: order, Most: 1000, Long: 9})
		l := names(500)
		b.fill(l...)
		slices.Sort(l)
		for _, limit := range []int{1, 2, 17, 99, 100} {
			for _, at := range []int{0, 1, 250, 399, 400, 401, 498, 499} {
				b.posts(scanOf(0, l[at], "", limit), scanOf(1, "", l[at], limit))
				b.settle(0, 0)
				first, _ := b.take(0, 0, 7)
				other, _ := b.take(1, 1, 7)
				val := func(k string) string { return "v" + k }
				if first.rows != rowText(l[at:min(at+limit, 500)], val) || other.rows != rowText(l[:min(at, limit)], val) {
					t.Fatalf("order %d, at %d, Limit %d: %s, %s", order, at, limit, first.rows, other.rows)
				}
			}
		}
	}
}

func TestScanTellsTheStampThen(t *testing.T) { // that of the groups applied ahead of it, and no other one's
	b := dToT(t, plain())
	b.posts(by(0, scan, "e"), by(1, put, "e"), by(2, put, "f"), by(3, scan, "d"))
	b.steps(0, 0, claimed, claimed, claimed, claimed, begun)
	for _, want := range []struct {
		client int
		reply  reply
	}{{3, reply{}}, {1, reply{}}, {0, reply{rows: `"e"="new" `, stamp: 1}}, {2, reply{}}} {
		if l := b.applies(0, 0); len(l) != 1 || l[0].ask.client != want.client || l[0].reply != want.reply {
			t.Errorf("%+v, not %+v", l, want)
		}
	}
}

// write is a request of a kind, all of one key.
func write(kind int, val, old string) ask {
	return ask{kind: kind, key: "k", val: val, old: old, seq: 7}
}

func TestGroupIsApplied(t *testing.T) { // each answer as if one by one; the stamp is one more if the key isn't as it was
	was := reply{found: true, val: "vk"}
	none, full := reply{}, reply{code: int(api.ErrFull)}
	found := func(v string) reply { return reply{found: true, val: v} }
	for _, x := range []struct {
		name    string
		had     bool // the key, with the value vk
		room    bool // for one more
		l       []ask
		want    []reply
		changes bool
		then    string // with which value it is there then; - of none
	}{
		{"get of one", true, true, []ask{write(get, "", "")}, []reply{was}, false, "vk"},
		{"get of none", false, true, []ask{write(get, "", "")}, []reply{none}, false, "-"},
		{"gets", true, false, []ask{write(get, "", ""), write(get, "", "")}, []reply{was, was}, false, "vk"},
		{"put", false, true, []ask{write(put, "a", "")}, []reply{none}, true, "a"},
		{"put anew", true, true, []ask{write(put, "a", "")}, []reply{was}, true, "a"},
		{"put anew, no room", true, false, []ask{write(put, "a", "")}, []reply{was}, true, "a"},
		{"put of the value that was there", true, true, []ask{write(put, "vk", "")}, []reply{was}, false, "vk"},
		{"put of another one and of that", true, true, []ask{write(put, "a", ""), write(put, "vk", "")}, []reply{was, found("a")}, false, "vk"},
		{"put of no bytes", false, true, []ask{write(put, "", "")}, []reply{none}, true, ""},
		{"put of no bytes anew", true, true, []ask{write(put, "", "")}, []reply{was}, true, ""},
		{"put, no room", false, false, []ask{write(put, "a", "")}, []reply{full}, false, "-"},
		{"puts, no room", false, false, []ask{write(put, "a", ""), write(get, "", ""), write(absent, "a", "")}, []reply{full, none, full}, false, "-"},
		{"put and delete", false, true, []ask{write(put, "a", ""), write(del, "", "")}, []reply{none, found("a")}, false, "-"},
		{"put, delete, put", false, true, []ask{write(put, "a", ""), write(del, "", ""), write(put, "b", "")}, []reply{none, found("a"), none}, true, "b"},
		{"delete", true, true, []ask{write(del, "", "")}, []reply{was}, true, "-"},
		{"delete of none", false, true, []ask{write(del, "", "")}, []reply{none}, false, "-"},
		{"delete twice", true, true, []ask{write(del, "", ""), write(del, "", "")}, []reply{was, none}, true, "-"},
		{"delete and put of the same", true, true, []ask{write(del, "", ""), write(put, "vk", "")}, []reply{was, none}, false, "vk"},
		{"delete and put, no room", true, false, []ask{write(del, "", ""), write(put, "a", "")}, []reply{was, none}, true, "a"},
		{"delete and put of the same, no room", true, false, []ask{write(del, "", ""), write(absent, "vk", "")}, []reply{was, none}, false, "vk"},
		{"delete of none and put, no room", false, false, []ask{write(del, "", ""), write(put, "a", "")}, []reply{none, full}, false, "-"},
		{"absent", false, true, []ask{write(absent, "a", "")}, []reply{none}, true, "a"},
		{"absent of one", true, true, []ask{write(absent, "a", "")}, []reply{was}, false, "vk"},
		{"absent twice", false, true, []ask{write(absent, "a", ""), write(absent, "b", "")}, []reply{none, found("a")}, true, "a"},
		{"swap", true, true, []ask{write(swap, "a", "vk")}, []reply{was}, true, "a"},
		{"swap, no room", true, false, []ask{write(swap, "a", "vk")}, []reply{was}, true, "a"},
		{"swap for the same", true, true, []ask{write(swap, "vk", "vk")}, []reply{was}, false, "vk"},
		{"swap of another value", true, true, []ask{write(swap, "a", "b")}, []reply{{code: 10, found: true, val: "vk"}}, false, "vk"},
		{"swap of none", false, true, []ask{write(swap, "a", "")}, []reply{{code: 3}}, false, "-"},
		{"swap of none, no room", false, false, []ask{write(swap, "a", "")}, []reply{{code: 3}}, false, "-"},
		{"swaps to and fro", true, true, []ask{write(swap, "a", "vk"), write(swap, "vk", "a")}, []reply{was, found("a")}, false, "vk"},
		{"the greatest value", false, true, []ask{write(put, fullV, "")}, []reply{none}, true, fullV},
	} {
		most := map[bool]int{true: 3, false: 2}[x.room]
		b := dToT(t, roomFor(most))
		b.fill("e", map[bool]string{true: "k", false: "p"}[x.had])
		if len(b.p.Pairs()) != 2 {
			t.Fatalf("%s: %q", x.name, b.p.Pairs())
		}
		stamp := b.p.Stamp()
		for i, a := range x.l {
			a.client = i
			b.posts(a)
			b.steps(0, 0, claimed)
		}
		b.steps(0, 0, begun)
		var got []reply
		for _, d := range b.applies(0, 0) {
			got = append(got, d.reply)
		}
		if !slices.Equal(got, x.want) {
			t.Errorf("%s: %+v, not %+v", x.name, got, x.want)
		}
		if changed := b.p.Stamp() - stamp; changed > 1 || (changed == 1) != x.changes {
			t.Errorf("%s: the stamp is %d more", x.name, changed)
		}
		if then := valueOf(b, "k"); then != x.then {
			t.Errorf("%s: the value is %q, not %q", x.name, then, x.then)
		}
		b.settle(0, 0)
		for i, want := range x.want {
			if got, err := b.take(i, i, 7); got != want || err != nil {
				t.Errorf("%s: %d is told %+v, %v", x.name, i, got, err)
			}
		}
	}
}

// valueOf is what a key has among the pairs that are told; - of none.
func valueOf(b *both, k string) string {
	for _, p := range b.p.Pairs() {
		if string(p.Key) == k {
			return string(p.Val)
		}
	}
	return "-"
}

func TestRoomGroupByGroup(t *testing.T) { // by rising keys: what is deleted ahead leaves room, what is deleted behind doesn't
	for _, x := range []struct {
		delete, put string
		want        reply
		then        []string
	}{{"e", "f", reply{}, []string{"f", "p"}}, {"p", "f", reply{code: 5}, []string{"e"}}} {
		b := dToT(t, roomFor(2))
		b.fill("e", "p")
		b.posts(by(0, put, x.put), by(1, del, x.delete))
		b.settle(0, 0)
		if got, err := b.take(0, 0, 7); got != x.want || err != nil {
			t.Errorf("put %q, delete %q: %+v, %v", x.put, x.delete, got, err)
		}
		if got, err := b.take(1, 1, 7); got != (reply{found: true, val: "v" + x.delete}) || err != nil {
			t.Errorf("put %q, delete %q: %+v, %v", x.put, x.delete, got, err)
		}
		var keys []string
		for _, p := range b.p.Pairs() {
			keys = append(keys, string(p.Key))
		}
		if !slices.Equal(keys, x.then) {
			t.Errorf("put %q, delete %q: %q", x.put, x.delete, keys)
		}
	}
}

func TestKeysOfEachLength(t *testing.T) { // P19.3: those that others begin with, and of MaxKey
	b := pairUp(t, 0, span{}, slotsOf(32))
	for i := range 16 {
		b.posts(by(i, put, longM[:i+1]), by(16+i, put, strings.Repeat("\x00", i+1)))
	}
	b.settle(0, 0)
	if n := len(b.p.Pairs()); n != 32 || b.p.Stamp() != 32 {
		t.Errorf("%d pairs, stamp %d", n, b.p.Stamp())
	}
	b.sweep()
	for i := range 16 {
		b.posts(by(i, del, longM[:i+1]), by(16+i, get, strings.Repeat("\x00", i+1)))
	}
	b.settle(0, 0)
	if n := len(b.p.Pairs()); n != 16 || b.p.Stamp() != 48 {
		t.Errorf("%d pairs, stamp %d", n, b.p.Stamp())
	}
}
