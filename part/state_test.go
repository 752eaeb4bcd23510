package part_test

import (
	"math"
	"strings"
	"testing"

	"garnet/api"
)

// way is one to a partition of d to t, or a piece of that, with room for three
// pairs and with four slots.
type way struct {
	name string
	lead func(b *both) *both
}

func ways() []way {
	asks := []ask{by(0, put, "m"), by(1, del, "e"), by(2, scan, "f"), by(3, absent, "m")}
	on := func(kinds ...int) func(b *both) *both {
		return func(b *both) *both {
			b.fill("e", "m")
			b.posts(asks...)
			b.steps(0, 0, kinds...)
			return b
		}
	}
	to := func(state int, kinds ...int) func(b *both) *both {
		return func(b *both) *both {
			b = on(kinds...)(b)
			b.must(b.set(state))
			return b
		}
	}
	all := []int{claimed, claimed, claimed, claimed, begun, applied, applied, applied, answered, answered, answered, answered, idle}
	return []way{
		{"new", func(b *both) *both { return b }},
		{"with pairs", func(b *both) *both { b.fill("e", "m"); return b }},
		{"full", func(b *both) *both { b.fill("e", "m", "s"); return b }},
		{"posted", on()},
		{"one is claimed", on(all[:1]...)},
		{"all but one are claimed", on(all[:3]...)},
		{"claimed", on(all[:4]...)},
		{"begun", on(all[:5]...)},
		{"one group is applied", on(all[:6]...)},
		{"two groups are applied", on(all[:7]...)},
		{"applied", on(all[:8]...)},
		{"one is answered", on(all[:9]...)},
		{"all but one are answered", on(all[:11]...)},
		{"answered", on(all[:12]...)},
		{"idle", on(all...)},
		{"taken over", func(b *both) *both {
			b = on(all[:6]...)(b)
			b.steps(2, 5, applied)
			return b
		}},
		{"closing, posted", to(closing)},
		{"closing, claimed", to(closing, all[:2]...)},
		{"closing, begun", to(closing, all[:5]...)},
		{"closing, answered", to(closing, all[:12]...)},
		{"frozen, new", func(b *both) *both { b.must(b.set(frozen)); return b }},
		{"frozen, full", func(b *both) *both { b.fill("e", "m", "s"); b.must(b.set(frozen)); return b }},
		{"frozen, posted", to(frozen)},
		{"frozen, done", to(frozen, all...)},
		{"cut", cutAt("g")},
		{"cut, and open", func(b *both) *both {
			b = cutAt("g")(b)
			b.must(b.set(open))
			return b
		}},
		{"cut, and one is redirected", func(b *both) *both {
			b = cutAt("g")(b)
			b.must(b.set(open))
			b.steps(1, 3, redirected)
			return b
		}},
		{"cut, and one is claimed", func(b *both) *both {
			b = cutAt("f")(b)
			b.must(b.set(open))
			b.steps(1, 3, redirected, redirected, redirected, claimed)
			return b
		}},
		{"cut off", func(b *both) *both {
			b.fill("e", "m", "s")
			b.must(b.set(frozen))
			q, err := b.cut("m", 4)
			b.must(err)
			return q
		}},
		{"cut and absorbed", func(b *both) *both {
			b = to(frozen)(b)
			q, err := b.cut("g", 4)
			b.must(err)
			b.must(q.set(frozen))
			b.must(b.absorb(q))
			return b
		}},
		{"gone", func(b *both) *both { b.must(b.set(gone)); return b }},
		{"gone, posted", to(gone)},
		{"gone, done", to(gone, all[:12]...)},
		{"gone, absorbed", func(b *both) *both {
			b = to(frozen)(b)
			q := pairUp(b.t, 1, span{"", "d"}, plain())
			q.must(q.set(frozen))
			q.must(q.absorb(b))
			return b
		}},
	}
}

// cutAt is frozen, and cut, beside posted slots.
func cutAt(k string) func(b *both) *both {
	return func(b *both) *both {
		b.fill("e", "m")
		b.posts(by(0, put, "m"), by(1, del, "e"), by(2, scan, "g"), by(3, get, "f"))
		b.must(b.set(frozen))
		_, err := b.cut(k, 4)
		b.must(err)
		return b
	}
}

func small() api.Config { return api.Config{Slots: 4, Order: 3, Most: 3, Long: 5} }

// eachWay goes through them; f is given a way to one more of the same, each
// made anew.
func eachWay(t *testing.T, f func(t *testing.T, one func() *both)) {
	for _, w := range ways() {
		t.Run(w.name, func(t *testing.T) {
			f(t, func() *both {
				b := dToT(t, small())
				b.hasty = true
				b = w.lead(b)
				b.hasty = false
				b.agree()
				return b
			})
		})
	}
}

func TestStepInEachState(t *testing.T) { // P19.3, P1: of each worker, at each tick; and one behind it
	eachWay(t, func(t *testing.T, one func() *both) {
		for _, w := range []int{math.MinInt, -1, 0, 1, 2, 1 << 32, math.MaxInt} {
			for _, now := range []int64{math.MinInt64, -1, 0, 3, 4, 5, 7, 8, 9, 10, 11, 1 << 32, 1<<40 - 1, 1 << 40, 1<<40 + 1, math.MaxInt64} {
				b := one()
				b.step(w, now)
				b.step(w, now)
				b.step(1, 6)
			}
		}
	})
}

func TestPostInEachState(t *testing.T) { // P19.2, P1: what fits, what doesn't, and what may not be
	asks := badAsks()
	for i, k := range []string{"a", "d", "e", "f", "g", justBelow("m"), "m", "s", "t", "z", longM, overM, ""} {
		for kind := get; kind <= scan; kind++ {
			asks = append(asks, by(4+i, kind, k), by(0, kind, k))
		}
		asks = append(asks, scanOf(4+i, "a", k, 9), scanOf(4+i, "f", k, 9), scanOf(4+i, k, "t", 1))
	}
	eachWay(t, func(t *testing.T, one func() *both) {
		b := one()
		for _, a := range asks {
			if _, err := b.post(a); err == nil {
				b = one()
			}
		}
	})
}

func TestTakeInEachState(t *testing.T) { // P19.2, P1: of each slot, by each client, of each number
	eachWay(t, func(t *testing.T, one func() *both) {
		b := one()
		for _, i := range []int{math.MinInt, -1, 0, 1, 2, 3, 4, 32, 1 << 32, math.MaxInt} {
			for _, client := range []int{math.MinInt, -1, 0, 1, 2, 3, 4, 1000, math.MaxInt} {
				for _, seq := range []int{-1, 0, 1, 6, 7, 8, math.MaxInt} {
					if _, err := b.take(i, client, seq); err == nil || err == api.ErrStale {
						if _, err := b.take(i, client, seq); err != api.ErrNone {
							t.Errorf("Take(%d, %d, %d) twice: %v", i, client, seq, err)
						}
						b = one()
					}
				}
			}
		}
	})
}

func TestSetInEachState(t *testing.T) { // P19.4, P1
	eachWay(t, func(t *testing.T, one func() *both) {
		for _, state := range []int{math.MinInt, -1, 0, 1, 2, 3, 4, 1 << 32, math.MaxInt} {
			b := one()
			b.set(state)
			b.step(1, 9)
			b.redirect()
		}
	})
}

func TestRedirectInEachState(t *testing.T) { // P19.4: till there is none
	eachWay(t, func(t *testing.T, one func() *both) {
		b := one()
		n := 0
		for b.redirect() {
			n++
		}
		if n > 4 || b.redirect() {
			t.Errorf("%d are redirected", n)
		}
		b.sweep()
	})
}

func TestCutInEachState(t *testing.T) { // P19.5, P1: at each key, for each number
	eachWay(t, func(t *testing.T, one func() *both) {
		b := one()
		for _, k := range []string{"", "\x00", "a", "d", "d\x00", "e", "f", "g", "l", "m", "m\x00", "s", "t", "z", longM, overM, strings.Repeat("e", 300)} {
			for _, id := range []int{math.MinInt, -1, 0, 3, 9, math.MaxInt} {
				q, err := b.cut(k, id)
				if err != nil {
					continue
				}
				q.settle(0, 0)
				q.posts(by(8, put, k))
				q.settle(1, 3)
				b.agree()
				b = one()
			}
		}
	})
}

func TestAbsorbInEachState(t *testing.T) { // P19.5, P1: of each kind of another one, and the other way round
	eachWay(t, func(t *testing.T, one func() *both) {
		for _, s := range []span{{"t", ""}, {"t", "z"}, {"g", "m"}, {"m", "t"}, {"f", "g"}, {"", "d"}, {"a", "d"}, {"g", ""}, {"", "m"}, {}} {
			for keys := range 3 {
				for _, state := range []int{open, frozen, gone} {
					b, q := one(), pairUp(t, 4, s, plain())
					q.fill([]string{inside(s), inside(s) + "\x00"}[:keys]...)
					q.must(q.set(state))
					b.absorb(q)
					q = pairUp(t, 4, s, small())
					q.fill([]string{inside(s), inside(s) + "\x00"}[:keys]...)
					q.must(q.set(state))
					q.absorb(one())
				}
			}
		}
		b := one()
		b.absorb(nil)
		b.absorb(b)
	})
}

func TestToTheEndOfEachState(t *testing.T) { // P19.7: all that is posted is answered, or redirected
	eachWay(t, func(t *testing.T, one func() *both) {
		b := one()
		if b.m.state == gone {
			for b.redirect() {
			}
		} else {
			b.must(b.set(open))
			b.settle(9, 500)
		}
		b.sweep()
		if b.p.Work() || !b.p.Quiet() || b.m.many(isEmpty) != 4 {
			t.Errorf("Work %v, Quiet %v, %+v", b.p.Work(), b.p.Quiet(), b.m.slots)
		}
	})
}

// scene is a partition, what was cut off it last, and a tick.
type scene struct {
	b, q *both
	now  int64
}

// letters is calls; of each one a letter.
const letters = "pdsz01+tcfogrxa"

func (s *scene) do(letter byte) {
	s.b.t.Helper()
	switch letter {
	case 'p':
		s.b.post(by(0, put, "e"))
	case 'd':
		s.b.post(by(1, del, "e"))
	case 's':
		s.b.post(by(2, scan, "d"))
	case 'z':
		s.b.post(by(3, absent, "q"))
	case '0', '1':
		s.b.step(int(letter-'0'), s.now)
	case '+':
		s.now += 5
	case 't':
		s.b.sweep()
	case 'c', 'f', 'o', 'g':
		s.b.set(map[byte]int{'c': closing, 'f': frozen, 'o': open, 'g': gone}[letter])
	case 'r':
		s.b.redirect()
	case 'x':
		if q, err := s.b.cut("m", 4); err == nil {
			s.q = q
		}
	case 'a':
		if s.q != nil {
			s.q.set(frozen)
		}
		s.b.absorb(s.q)
	}
}

// eachText goes through all texts of some letters, of a length.
func eachText(letters string, length int, f func(text string)) {
	if length == 0 {
		f("")
		return
	}
	eachText(letters, length-1, func(text string) {
		for i := range len(letters) {
			f(text + letters[i:i+1])
		}
	})
}

func play(s *scene, text string) {
	s.b.t.Helper()
	for i := range len(text) {
		s.do(text[i])
	}
}

func TestAllShortSequences(t *testing.T) { // P19.1 to P19.5
	eachText(letters, 4, func(text string) { play(&scene{b: dToT(t, small())}, text) })
	eachText("p0f", 7, func(text string) { play(&scene{b: dToT(t, small())}, text) })
}

func TestAllShortSequencesInEachState(t *testing.T) { // P19.1 to P19.5
	eachWay(t, func(t *testing.T, one func() *both) {
		eachText(letters, 2, func(text string) { play(&scene{b: one()}, text) })
		for _, way := range []string{"01", "fxo0", "cfxao1", "+1", "t0"} {
			for i := range len(letters) {
				play(&scene{b: one()}, letters[i:i+1]+way)
				play(&scene{b: one()}, way+letters[i:i+1])
			}
		}
	})
}
