package part_test

import (
	"math"
	"slices"
	"strings"
	"testing"

	"garnet/api"
	"garnet/part"
)

func TestSetOfEachStateFromEach(t *testing.T) { // P19.4: Quiet or not
	for from := range 4 {
		for to := range 4 {
			for _, kinds := range [][]int{nil, {claimed}, {claimed, begun}, {claimed, begun, applied}, {claimed, begun, applied, answered}} {
				quiet := len(kinds) == 0 || len(kinds) == 4
				if !quiet && from >= frozen {
					continue // that can't be
				}
				b := dToT(t, plain())
				b.posts(by(0, put, "e"))
				b.steps(0, 0, kinds...)
				b.must(b.set(from))
				want, then := error(nil), to
				if from == gone {
					want, then = api.ErrGone, gone
				} else if to >= frozen && !quiet {
					want, then = api.ErrState, from
				}
				if err := b.set(to); err != want || b.p.State() != then {
					t.Errorf("%d to %d behind %v: %v, %d", from, to, kinds, err, b.p.State())
				}
			}
		}
	}
}

func TestSetOfNone(t *testing.T) { // P19.4: ErrArg ahead of ErrGone and ErrState
	for from := range 4 {
		for _, kinds := range [][]int{nil, {claimed}, {claimed, begun}} {
			if len(kinds) > 0 && from >= frozen {
				continue
			}
			b := dToT(t, plain())
			b.posts(by(0, put, "e"))
			b.steps(0, 0, kinds...)
			b.must(b.set(from))
			for _, state := range []int{-1, 4, 5, math.MinInt, 1 << 32, 1<<32 + 2, math.MaxInt} {
				if err := b.set(state); err != api.ErrArg || b.p.State() != from {
					t.Errorf("Set(%d) of %d: %v, %d", state, from, err, b.p.State())
				}
			}
		}
	}
}

func TestSetToAndFro(t *testing.T) { // P19.4: pairs, slots, range and stamp stay
	b := dToT(t, plain())
	b.fill("e", "f")
	b.posts(by(0, put, "g"))
	for _, state := range []int{open, closing, closing, open, frozen, frozen, closing, frozen, open, frozen, gone} {
		b.must(b.set(state))
		if b.p.Stamp() != 2 || len(b.p.Pairs()) != 2 || spanOf(b.p.Range()) != (span{"d", "t"}) || !b.p.Work() {
			t.Errorf("Set(%d): stamp %d, %q", state, b.p.Stamp(), b.p.Pairs())
		}
	}
}

func TestSetGoneKeepsWhatIsDone(t *testing.T) { // P19.2, P19.4: an answer is taken of what is gone, too
	b := dToT(t, plain())
	b.posts(by(0, put, "e"))
	b.settle(0, 0)
	b.must(b.set(gone))
	if got, err := b.take(0, 0, 7); got != (reply{}) || err != nil {
		t.Errorf("Take: %+v, %v", got, err)
	}
}

func TestRedirect(t *testing.T) { // P19.4: in each state, one by one; what fits stays
	for _, state := range []int{open, closing, frozen} {
		b := cutOff(t, 6, by(0, put, "e"), by(1, put, "m"), by(2, scan, "n"), by(3, put, "f"), by(4, get, "s"))
		b.must(b.set(state))
		for _, i := range []int{1, 2, 4} {
			if _, err := b.take(i, i, 7); err != api.ErrState {
				t.Errorf("state %d, slot %d: %v", state, i, err)
			}
			if !b.redirect() {
				t.Errorf("state %d: nothing is redirected", state)
			}
			if _, err := b.take(i, i, 7); err != api.ErrStale {
				t.Errorf("state %d, slot %d: %v", state, i, err)
			}
		}
		for range 2 {
			if b.redirect() {
				t.Errorf("state %d: what fits is redirected", state)
			}
		}
		if !b.p.Work() {
			t.Errorf("state %d: nothing is posted any more", state)
		}
	}
}

func TestRedirectOfWhatIsGone(t *testing.T) { // P19.4: the first posted one, whether it fits or not
	b := cutOff(t, 6, by(0, put, "e"), by(1, put, "m"), by(2, scan, "n"), by(3, put, "f"))
	b.must(b.set(gone))
	for i := range 4 {
		if !b.redirect() {
			t.Error("nothing is redirected")
		}
		if _, err := b.take(i, i, 7); err != api.ErrStale {
			t.Errorf("slot %d: %v", i, err)
		}
	}
	if b.redirect() || b.p.Work() {
		t.Error("there is one more")
	}
}

func TestRedirectLeavesWhatIsUnderWay(t *testing.T) { // P19.4: posted ones alone
	b := dToT(t, plain())
	b.posts(by(0, put, "e"))
	for _, kind := range []int{claimed, begun, applied, answered} {
		b.steps(0, 0, kind)
		if b.redirect() {
			t.Errorf("behind %d something is redirected", kind)
		}
	}
	b.must(b.set(gone))
	if b.redirect() {
		t.Error("what is done is redirected")
	}
	if _, err := b.take(0, 0, 7); err != nil {
		t.Errorf("Take: %v", err)
	}
}

// frozenOne is d to t, frozen, with these keys.
func frozenOne(t *testing.T, keys ...string) *both {
	t.Helper()
	b := dToT(t, plain())
	b.fill(keys...)
	b.must(b.set(frozen))
	return b
}

func TestCutOfEachKey(t *testing.T) { // P19.5
	justT := "s" + strings.Repeat("\xff", 15)
	for _, x := range []struct {
		name string
		k    string
		want error
		low  []string // keys that stay
	}{
		{"at a key that is there", "m", nil, []string{"d", "e"}},
		{"between keys", "f", nil, []string{"d", "e"}},
		{"just behind its From", "d\x00", nil, []string{"d"}},
		{"just below its To", justT, nil, []string{"d", "e", "m", "s"}},
		{"at the last key", "s", nil, []string{"d", "e", "m"}},
		{"of MaxKey bytes", longM, nil, []string{"d", "e", "m"}},
		{"at its From", "d", api.ErrRange, nil},
		{"at its To", "t", api.ErrRange, nil},
		{"just below its From", justBelow("d"), api.ErrRange, nil},
		{"just behind its To", "t\x00", api.ErrRange, nil},
		{"far below it", "\x00", api.ErrRange, nil},
		{"far behind it", "z", api.ErrRange, nil},
		{"at no key", "", api.ErrArg, nil},
		{"at a key that is too long", overM, api.ErrArg, nil},
		{"at a key that is much too long", strings.Repeat("m", 500), api.ErrArg, nil},
		{"at one that is too long and outside", strings.Repeat("z", 17), api.ErrArg, nil},
	} {
		b := frozenOne(t, "m", "e", "d", "s")
		all := textOf(b.p.Pairs())
		q, err := b.cut(x.k, 8)
		if err != x.want || (q != nil) != (err == nil) {
			t.Fatalf("%s: %v", x.name, err)
		}
		if err != nil {
			if b.p.Stamp() != 4 || textOf(b.p.Pairs()) != all || spanOf(b.p.Range()) != (span{"d", "t"}) {
				t.Errorf("%s: beside %v something has turned", x.name, err)
			}
			continue
		}
		var low []string
		for _, p := range b.p.Pairs() {
			low = append(low, string(p.Key))
		}
		if !slices.Equal(low, x.low) || textOf(b.p.Pairs())+textOf(q.p.Pairs()) != all {
			t.Errorf("%s: %q, and %q", x.name, b.p.Pairs(), q.p.Pairs())
		}
		if spanOf(b.p.Range()) != (span{"d", x.k}) || spanOf(q.p.Range()) != (span{x.k, "t"}) {
			t.Errorf("%s: %q, and %q", x.name, b.p.Range(), q.p.Range())
		}
		if b.p.Stamp() != 5 || b.p.State() != frozen || b.p.Id() != 3 {
			t.Errorf("%s: stamp %d, state %d, number %d", x.name, b.p.Stamp(), b.p.State(), b.p.Id())
		}
		isFresh(t, x.name, q.p)
	}
}

// isFresh holds what a partition that is cut off is, but for range and pairs.
func isFresh(t *testing.T, name string, q *part.Part) {
	t.Helper()
	if q.Id() != 8 || q.State() != part.Open || q.Stamp() != 0 || q.Epoch() != 0 || q.Work() || !q.Quiet() {
		t.Errorf("%s: number %d, state %d, stamp %d, epoch %d, Work %v", name, q.Id(), q.State(), q.Stamp(), q.Epoch(), q.Work())
	}
}

func TestCutInEachRange(t *testing.T) { // P19.5: with ends, and without
	for _, s := range []span{{}, {"", "t"}, {"d", ""}, {"d", "t"}} {
		for _, k := range []string{"\x00", "d", "d\x00", "m", "t", "\xff"} {
			b := pairUp(t, 3, s, plain())
			b.must(b.set(frozen))
			want := error(nil)
			if !s.has(k) || k == s.from {
				want = api.ErrRange
			}
			if _, err := b.cut(k, 8); err != want {
				t.Errorf("%q: Cut(%q): %v, not %v", s, k, err, want)
			}
		}
	}
}

func TestCutOfEachNumber(t *testing.T) { // P19.5: not below 0; its own, too
	for _, id := range []int{0, 3, 8, 1 << 32, math.MaxInt} {
		b := frozenOne(t, "e", "p")
		if q, err := b.cut("m", id); err != nil || q.p.Id() != id || b.p.Id() != 3 {
			t.Errorf("Cut(m, %d): %v", id, err)
		}
	}
	for _, id := range []int{-1, -2, math.MinInt} {
		b := frozenOne(t, "e", "p")
		for _, k := range []string{"m", "d", "z", "", overM} {
			if _, err := b.cut(k, id); err != api.ErrArg {
				t.Errorf("Cut(%q, %d): %v", k, id, err)
			}
		}
	}
}

func TestCutOfWhatIsNotFrozen(t *testing.T) { // P19.5: ErrState ahead of all else
	for _, state := range []int{open, closing, gone} {
		b := dToT(t, plain())
		b.fill("e", "p")
		b.must(b.set(state))
		for _, k := range []string{"m", "d", "z", "", overM} {
			for _, id := range []int{8, -1} {
				if q, err := b.cut(k, id); q != nil || err != api.ErrState {
					t.Errorf("state %d: Cut(%q, %d): %v", state, k, id, err)
				}
			}
		}
		if b.p.Stamp() != 2 {
			t.Errorf("state %d: stamp %d", state, b.p.Stamp())
		}
	}
}

func TestWhatIsCutOffGoesByTheSameConfig(t *testing.T) { // P19.5: as many slots, as much room, leases as long
	for _, c := range []api.Config{
		{Slots: 1, Order: 3, Most: 2, Long: 1}, {Slots: 7, Order: 5, Most: 3, Long: 9}, {Slots: 32, Order: 16, Most: 40, Long: 1000},
	} {
		b := pairUp(t, 0, span{"d", "t"}, c)
		b.must(b.set(frozen))
		q, err := b.cut("m", 8)
		if err != nil {
			t.Fatal(err)
		}
		for i := range c.Slots {
			if at, err := q.post(by(i, put, "m")); at != i || err != nil {
				t.Fatalf("Post: %d, %v", at, err)
			}
		}
		if _, err := q.post(by(99, put, "m")); err != api.ErrFull {
			t.Errorf("one slot more: %v", err)
		}
		q.steps(0, 0, claimed)
		if _, _, err := q.step(1, int64(c.Long)-1); err != api.ErrBusy {
			t.Errorf("Long %d: %v", c.Long, err)
		}
		q.settle(1, int64(c.Long))
		q.sweep()
		q.hasty = true
		for i := range c.Most + 1 {
			q.posts(by(0, put, "n"+string([]byte{byte(i)})))
			q.settle(0, 2000)
			a, _ := q.take(0, 0, 7)
			if (a.code == 5) != (i >= c.Most-1) {
				t.Fatalf("room for %d: %d keys: %+v", c.Most, i+2, a)
			}
		}
	}
}

func TestCutBesidePostedSlots(t *testing.T) { // P19.5: they stay; by a micro-step those that don't fit are redirected, too
	asks := []ask{by(0, put, "e"), by(1, put, "q"), scanOf(2, "f", "", 9), scanOf(3, "m", "", 9)}
	for _, steps := range []bool{false, true} {
		b := cutOff(t, 5, asks...)
		for i := range 4 {
			if _, err := b.take(i, i, 7); err != api.ErrState {
				t.Errorf("slot %d: %v", i, err)
			}
		}
		for range 2 {
			if steps {
				b.must(b.set(open))
				b.steps(0, 0, redirected)
			} else if !b.redirect() {
				t.Error("nothing is redirected")
			}
		}
		b.must(b.set(open))
		b.steps(0, 0, claimed, claimed, begun, applied, applied, answered, answered, idle)
		for i, want := range []error{nil, api.ErrStale, nil, api.ErrStale} {
			if _, err := b.take(i, i, 7); err != want {
				t.Errorf("slot %d: %v, not %v", i, err, want)
			}
		}
	}
}

func TestCutBesideOtherSlots(t *testing.T) { // P19.5: what is done and what is redirected is taken behind it
	b := cutOff(t, 5, by(0, put, "e"), by(1, put, "q"))
	b.must(b.set(open))
	b.steps(0, 0, redirected, claimed, begun, applied, answered)
	b.must(b.set(frozen))
	if _, err := b.cut("e", 9); err != nil {
		t.Fatal(err)
	}
	for i, want := range []error{nil, api.ErrStale} {
		if _, err := b.take(i, i, 7); err != want {
			t.Errorf("slot %d: %v", i, err)
		}
	}
}

func TestCutAndAbsorbed(t *testing.T) { // P19.5: range and pairs are as they were, but for the stamp
	for _, keys := range [][]string{nil, {"d"}, {"e", "p"}, {"d", "e", "f", "m", "n", "o", "p", "s"}, names(90)} {
		for _, k := range []string{"d\x00", "e", "m", "n", "s\xff", "j"} {
			b := frozenOne(t, keys...)
			was, stamp := textOf(b.p.Pairs()), b.p.Stamp()
			q, err := b.cut(k, 8)
			b.must(err)
			b.must(q.set(frozen))
			b.must(b.absorb(q))
			if textOf(b.p.Pairs()) != was || spanOf(b.p.Range()) != (span{"d", "t"}) || b.p.Stamp() != stamp+2 || b.p.State() != frozen {
				t.Errorf("%d keys, cut at %q: %q, %q, stamp %d", len(keys), k, b.p.Range(), b.p.Pairs(), b.p.Stamp())
			}
			b.must(b.set(open))
			b.posts(by(0, put, "q"), by(1, scan, "a"))
			b.settle(0, 0)
		}
	}
}

// nextTo is a partition from t on, up to a key, frozen, with these keys.
func nextTo(t *testing.T, to string, c api.Config, keys ...string) *both {
	t.Helper()
	q := pairUp(t, 5, span{"t", to}, c)
	q.fill(keys...)
	q.must(q.set(frozen))
	return q
}

func TestAbsorb(t *testing.T) { // P19.5: up to an end, and without one
	for _, to := range []string{"", "z", "t\x00"} {
		b := frozenOne(t, "e", "m")
		keys := []string{"t"}
		if to != "t\x00" {
			keys = []string{"t", "u", "x"}
		}
		q := nextTo(t, to, plain(), keys...)
		all := textOf(b.p.Pairs()) + textOf(q.p.Pairs())
		stamp := q.p.Stamp()
		b.must(b.absorb(q))
		if spanOf(b.p.Range()) != (span{"d", to}) || textOf(b.p.Pairs()) != all || b.p.Stamp() != 3 || b.p.State() != frozen || b.p.Id() != 3 {
			t.Errorf("%q, %q, stamp %d, state %d", b.p.Range(), b.p.Pairs(), b.p.Stamp(), b.p.State())
		}
		if spanOf(q.p.Range()) != (span{"t", to}) || len(q.p.Pairs()) > 0 || q.p.State() != gone || q.p.Id() != 5 || q.p.Stamp() != stamp {
			t.Errorf("the other one: %q, %q, state %d, stamp %d", q.p.Range(), q.p.Pairs(), q.p.State(), q.p.Stamp())
		}
		b.must(b.set(open))
		b.posts(by(0, put, "t"), scanOf(1, "", "", 100))
		b.settle(0, 0)
		if got, err := b.take(0, 0, 7); got != (reply{found: true, val: "vt"}) || err != nil {
			t.Errorf("put t: %+v, %v", got, err)
		}
	}
}

func TestWhatIsAbsorbed(t *testing.T) { // P19.5: it is gone, and its posted slots are redirected one by one
	b := frozenOne(t, "e")
	q := pairUp(t, 5, span{"t", ""}, slotsOf(5))
	q.posts(by(0, put, "u"))
	q.settle(0, 0)
	q.posts(by(1, put, "v"), scanOf(2, "a", "", 5), by(3, get, "x"))
	q.must(q.set(frozen))
	b.must(b.absorb(q))
	for _, state := range []int{open, closing, frozen, gone} {
		if err := q.set(state); err != api.ErrGone {
			t.Errorf("Set(%d): %v", state, err)
		}
	}
	if _, err := q.post(by(4, get, "x")); err != api.ErrGone {
		t.Errorf("Post: %v", err)
	}
	if _, _, err := q.step(0, 0); err != api.ErrGone {
		t.Errorf("Step: %v", err)
	}
	if _, err := q.cut("u", 9); err != api.ErrState {
		t.Errorf("Cut: %v", err)
	}
	for i := 1; i <= 3; i++ {
		if !q.p.Work() || !q.redirect() {
			t.Error("nothing is redirected")
		}
		if _, err := q.take(i, i, 7); err != api.ErrStale {
			t.Errorf("slot %d: %v", i, err)
		}
	}
	if q.redirect() || q.p.Work() {
		t.Error("there is one more")
	}
	if got, err := q.take(0, 0, 7); got != (reply{}) || err != nil {
		t.Errorf("what was done: %+v, %v", got, err)
	}
}

func TestAbsorbBesidePostedSlots(t *testing.T) { // P19.5: they stay, and all of them fit
	b := dToT(t, plain())
	b.posts(by(0, put, "e"), scanOf(1, "m", "z", 9))
	b.must(b.set(frozen))
	q := nextTo(t, "", plain(), "u", "y", "z")
	b.must(b.absorb(q))
	if b.redirect() {
		t.Error("what fits is redirected")
	}
	b.must(b.set(open))
	b.settle(0, 0)
	if got, err := b.take(1, 1, 7); got != (reply{rows: `"u"="vu" "y"="vy" `, stamp: 2}) || err != nil {
		t.Errorf("the scan: %+v, %v", got, err)
	}
}

func TestWhatDoesNotFitMayFitAgain(t *testing.T) { // P19.4, P19.5: what is absorbed ahead of being redirected
	b := dToT(t, plain())
	b.posts(by(0, put, "q"), by(1, put, "e"))
	b.must(b.set(frozen))
	q, err := b.cut("m", 8)
	b.must(err)
	b.must(q.set(frozen))
	b.must(b.absorb(q))
	b.must(b.set(open))
	b.steps(0, 0, claimed, claimed, begun, applied, applied, answered, answered, idle)
	if n := len(b.p.Pairs()); n != 2 {
		t.Errorf("%d pairs", n)
	}
}

func TestAbsorbOfNone(t *testing.T) { // P19.5: ErrArg ahead of ErrState
	for state := range 4 {
		b := dToT(t, plain())
		b.fill("e")
		b.must(b.set(state))
		if err := b.absorb(nil); err != api.ErrArg {
			t.Errorf("state %d: Absorb(nil): %v", state, err)
		}
		if err := b.absorb(b); err != api.ErrArg {
			t.Errorf("state %d: Absorb of itself: %v", state, err)
		}
		if b.p.Stamp() != 1 || b.p.State() != state || len(b.p.Pairs()) != 1 {
			t.Errorf("state %d: something has turned", state)
		}
	}
}

func TestAbsorbOfWhatIsNotFrozen(t *testing.T) { // P19.5: either of them; ErrState ahead of ErrRange and ErrFull
	for one := range 4 {
		for other := range 4 {
			for _, s := range []span{{"t", "z"}, {"u", "z"}, {"a", "b"}} {
				for _, most := range []int{2, 100} {
					b := dToT(t, roomFor(most))
					b.fill("e", "m")
					q := pairUp(t, 5, s, plain())
					q.fill(s.from)
					b.must(b.set(one))
					q.must(q.set(other))
					want := error(nil)
					switch {
					case one != frozen || other != frozen:
						want = api.ErrState
					case s.from != "t":
						want = api.ErrRange
					case most == 2:
						want = api.ErrFull
					}
					if err := b.absorb(q); err != want {
						t.Errorf("%d and %d, %q, room for %d: %v, not %v", one, other, s, most, err, want)
					}
					if want != nil && (b.p.Stamp() != 2 || q.p.State() != other || len(q.p.Pairs()) != 1) {
						t.Errorf("%d and %d: something has turned", one, other)
					}
				}
			}
		}
	}
}

// inside is a key of a range.
func inside(s span) string {
	if s.from == "" {
		return "\x00"
	}
	return s.from
}

func TestAbsorbOfWhatBeginsElsewhere(t *testing.T) { // P19.5
	for _, x := range []struct {
		one, other span
		want       error
	}{
		{span{"d", "t"}, span{"t", "z"}, nil},
		{span{"", "t"}, span{"t", ""}, nil},
		{span{"d", "t"}, span{"t\x00", "z"}, api.ErrRange},
		{span{"d", "t"}, span{justBelow("t"), "z"}, api.ErrRange},
		{span{"d", "t"}, span{"m", "z"}, api.ErrRange},
		{span{"d", "t"}, span{"d", "t"}, api.ErrRange},
		{span{"d", "t"}, span{"a", "d"}, api.ErrRange},
		{span{"d", "t"}, span{"", "d"}, api.ErrRange},
		{span{"d", "t"}, span{}, api.ErrRange},
		{span{"d", ""}, span{"", "d"}, api.ErrRange},
		{span{"d", ""}, span{"t", ""}, api.ErrRange},
		{span{}, span{}, api.ErrRange},
		{span{}, span{"", "d"}, api.ErrRange},
		{span{"d", longM}, span{longM, ""}, nil},
		{span{"d", longM}, span{longM[:15], ""}, api.ErrRange},
	} {
		for _, full := range []bool{false, true} { // ErrRange ahead of ErrFull
			c := plain()
			if full {
				c.Most = 1
			}
			b, q := pairUp(t, 3, x.one, c), pairUp(t, 5, x.other, plain())
			if full {
				b.fill(inside(x.one))
				q.fill(inside(x.other))
			}
			b.must(b.set(frozen))
			q.must(q.set(frozen))
			want := x.want
			if full && want == nil {
				want = api.ErrFull
			}
			if err := b.absorb(q); err != want {
				t.Errorf("%q absorbs %q: %v, not %v", x.one, x.other, err, want)
			}
		}
	}
}

func TestAbsorbUpToTheRoomThereIs(t *testing.T) { // P19.5: just as many as there is room for, and one more
	for _, most := range []int{1, 2, 5, 60, 999, 1000} {
		for _, low := range []int{0, 1, most / 2, most - 1, most} {
			for more := range 2 {
				n := most - low + more
				if low > most || n > 1000 || n == 0 {
					continue
				}
				b := pairUp(t, 3, span{"", "m"}, api.Config{Slots: 32, Order: 3, Most: most, Long: 1})
				q := pairUp(t, 4, span{"m", ""}, api.Config{Slots: 32, Order: 3, Most: 1000, Long: 1})
				var lows, highs []string
				for _, k := range names(low) {
					lows = append(lows, "a"+k)
				}
				for _, k := range names(n) {
					highs = append(highs, "p"+k)
				}
				b.fill(lows...)
				q.fill(highs...)
				b.must(b.set(frozen))
				q.must(q.set(frozen))
				want := error(nil)
				if more > 0 {
					want = api.ErrFull
				}
				if err := b.absorb(q); err != want {
					t.Errorf("room for %d, %d and %d: %v", most, low, n, err)
				}
				if want != nil && (q.p.State() != frozen || len(q.p.Pairs()) != n || len(b.p.Pairs()) != low) {
					t.Errorf("room for %d, %d and %d: something has turned", most, low, n)
				}
			}
		}
	}
}

func TestAbsorbOfUnlikeOnes(t *testing.T) { // P19.5: of another order, room, number of slots, and with leases of another length
	for order := 3; order <= 16; order++ {
		for _, keys := range []int{0, 1, 5, 40} {
			b := pairUp(t, 3, span{"a", "d"}, api.Config{Slots: 4, Order: 19 - order, Most: 50, Long: 3})
			q := pairUp(t, 3, span{"d", ""}, api.Config{Slots: 9, Order: order, Most: 40, Long: 7})
			b.fill("a", "b", "c")
			l := names(keys)
			q.fill(l...)
			b.must(b.set(frozen))
			q.must(q.set(frozen))
			if err := b.absorb(q); err != nil {
				t.Fatalf("orders %d and %d, %d keys: %v", 19-order, order, keys, err)
			}
			b.must(b.set(open))
			for i := range 50 - 3 - keys { // there is the first one's room
				b.hasty = true
				b.posts(by(0, put, "z"+string([]byte{byte(i)})))
				b.settle(0, 0)
				if got, err := b.take(0, 0, 7); got.code != 0 || err != nil {
					t.Fatalf("%+v, %v", got, err)
				}
			}
			b.hasty = false
			for _, k := range append(l, "a", "c") {
				b.posts(by(0, del, k), by(1, put, "zz"))
				b.settle(0, 0)
				b.sweep()
			}
		}
	}
}

func TestAbsorbAgainAndAgain(t *testing.T) { // P19.5: one takes all in, from the next one on
	b := pairUp(t, 0, span{}, roomFor(60))
	var l []*both
	b.fill(names(50)...)
	was := textOf(b.p.Pairs())
	b.must(b.set(frozen))
	for i, k := range []string{"l", "j", "h", "f", "e0"} {
		q, err := b.cut(k, 10+i)
		b.must(err)
		l = append(l, q)
	}
	slices.Reverse(l)
	for i, q := range l {
		b.must(q.set(frozen))
		b.must(b.absorb(q))
		for _, gone := range l[:i+1] {
			if err := b.absorb(gone); err != api.ErrState {
				t.Errorf("absorbed again: %v", err)
			}
		}
	}
	if textOf(b.p.Pairs()) != was || spanOf(b.p.Range()) != (span{}) || b.p.Stamp() != 60 {
		t.Errorf("%q, stamp %d, %q", b.p.Range(), b.p.Stamp(), b.p.Pairs())
	}
}

func TestMovesAskNoLease(t *testing.T) { // P19.5: Cut and Absorb, whoever holds it; it goes on behind them
	b := dToT(t, plain())
	b.posts(by(0, put, "e"))
	b.steps(0, 0, claimed, begun, applied, answered)
	b.must(b.set(frozen))
	q, err := b.cut("m", 8)
	b.must(err)
	b.must(q.set(frozen))
	b.must(b.absorb(q))
	b.must(b.set(open))
	if _, _, err := b.step(1, 4); err != api.ErrBusy || b.p.Epoch() != 1 {
		t.Errorf("Step: %v, epoch %d", err, b.p.Epoch())
	}
	b.steps(1, 5, idle)
}
