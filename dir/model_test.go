package dir_test

import (
	"math"
	"slices"
	"strings"
	"testing"

	"garnet/api"
	"garnet/dir"
	"garnet/key"
)

// draws is numbers that look like chance and are the same in each run.
func draws() func(k int) int {
	seed := uint64(1)
	return func(k int) int {
		seed = seed*6364136223846793005 + 1442695040888963407
		return int(seed>>33) % k
	}
}

// span is a range, told by texts: from one key on, up to another one, or, of
// none, without an end.
type span struct{ from, to string }

func (s span) bytes() api.Range { return api.Range{From: roomy(s.from), To: roomy(s.to)} }

func textOf(r api.Range) span { return span{string(r.From), string(r.To)} }

// mayBe and has are chapter 5's words of a range, and of a key in it.
func (s span) mayBe() bool {
	return len(s.from) <= 16 && len(s.to) <= 16 && (s.to == "" || s.to > s.from)
}

func (s span) has(k string) bool { return k >= s.from && (s.to == "" || s.to > k) }

// meets is chapter 5's word of what two ranges have in common.
func (s span) meets(o span) bool {
	return s.mayBe() && o.mayBe() && (s.to == "" || o.from < s.to) && (o.to == "" || s.from < o.to)
}

// entry is one of a directory's.
type entry struct {
	part int
	span span
}

// textsOf is entries by texts.
func textsOf(told []api.Entry) []entry {
	var l []entry
	for _, e := range told {
		l = append(l, entry{e.Part, textOf(e.Range)})
	}
	return l
}

// model is P18.1 and P18.2 once more: at which key each partition begins, in
// no order, from which all else is told.
type model struct {
	begins  map[int]string
	version uint64
}

func newModel() *model { return &model{begins: map[int]string{0: ""}} }

// list is all entries, rising.
func (m *model) list() []entry {
	var l []entry
	for part, from := range m.begins {
		l = append(l, entry{part, span{from, m.end(part)}})
	}
	slices.SortFunc(l, func(a, b entry) int { return strings.Compare(a.span.from, b.span.from) })
	return l
}

// end is the least key at which another one begins behind a partition's own.
func (m *model) end(part int) string {
	to := ""
	for _, from := range m.begins {
		if from > m.begins[part] && (to == "" || from < to) {
			to = from
		}
	}
	return to
}

func (m *model) find(k string) int {
	for part, from := range m.begins {
		if (span{from, m.end(part)}).has(k) {
			return part
		}
	}
	return -1
}

func (m *model) split(part int, k string, fresh int) error {
	from, is := m.begins[part]
	_, twice := m.begins[fresh]
	switch {
	case fresh < 0 || len(k) < 1 || len(k) > 16:
		return api.ErrArg
	case !is:
		return api.ErrNone
	case twice:
		return api.ErrTwice
	case len(m.begins) >= 16:
		return api.ErrFull
	case !(span{from, m.end(part)}).has(k) || k == from:
		return api.ErrRange
	}
	m.begins[fresh] = k
	m.version++
	return nil
}

func (m *model) merge(part int) (int, error) {
	if _, is := m.begins[part]; !is {
		return 0, api.ErrNone
	}
	to := m.end(part)
	if to == "" {
		return 0, api.ErrRange
	}
	next := m.find(to)
	delete(m.begins, next)
	m.version++
	return next, nil
}

// both is a directory, and the model of it: each call is done on both, and
// held against it. All that is handed in, and all that is told, is written
// over at once (P18.3), so that each look behind tells whether that is to be
// seen.
type both struct {
	t    *testing.T
	d    *dir.Dir
	m    *model
	were []int // all numbers that ever were asked for
}

func pairUp(t *testing.T) *both {
	t.Helper()
	b := &both{t: t, d: newDir(t), m: newModel(), were: []int{0}}
	b.agree()
	return b
}

func newDir(t *testing.T) *dir.Dir {
	t.Helper()
	d := dir.New()
	if d == nil {
		t.Fatal("New: nil")
	}
	return d
}

// justBelow is the greatest key that is less; of the least key that is none.
func justBelow(k string) string {
	last := len(k) - 1
	if last < 0 || k[last] == 0 {
		return k[:max(last, 0)]
	}
	return k[:last] + string([]byte{k[last] - 1}) + strings.Repeat("\xff", max(0, 16-len(k)))
}

// looks is bytes that Find is asked: none, the least ones, great ones, too
// long ones, and those around each key at which an entry begins.
func looks(l []entry) []string {
	keys := []string{"", "\x00", "\x00\x00", "a", "m", "zz", "\xff", strings.Repeat("\xff", 16), strings.Repeat("\xff", 40)}
	for _, e := range l {
		k := e.span.from
		keys = append(keys, k, justBelow(k), justBelow(k)+"\xff\xff", k+"\x00", k+"m", k+strings.Repeat("\x00", 20))
	}
	return keys
}

// crossings is ranges that Meet is asked: those around each entry, those that
// end, and begin, just where one does, and ones that may not be.
func crossings(l []entry) []span {
	long := strings.Repeat("a", 17)
	spans := []span{{}, {"m", ""}, {"", "m"}, {"m", "n"}, {"m", "m"}, {"n", "m"}, {"", "\x00"},
		{long, ""}, {"", long}, {"a", long + "z"}, {long, "b"}}
	for i, e := range l {
		k, to := e.span.from, e.span.to
		spans = append(spans, e.span, span{k, ""}, span{"", k}, span{k, k + "\x00"}, span{k, k},
			span{justBelow(k), k}, span{justBelow(k), k + "\x00"}, span{k + "\x00", ""}, span{k + "\x00", to},
			span{k, justBelow(to)}, span{"", k + "\x00"}, span{to, k}, span{k, l[min(i+2, len(l)-1)].span.from},
			span{k, l[len(l)-1].span.from})
	}
	return spans
}

// agree holds all that may be seen of a directory against the model, and asks
// it what follows (P18.4).
func (b *both) agree() {
	b.t.Helper()
	l := b.m.list()
	for range 2 {
		told := b.d.Entries()
		b.sameEntries(told, l)
		spoilEntries(told)
	}
	if v := b.d.Version(); v != b.m.version {
		b.t.Fatalf("Version: %d, not %d", v, b.m.version)
	}
	b.agreeOfParts(l)
	b.agreeOfKeys(l)
	for _, s := range crossings(l) {
		b.meet(l, s)
	}
}

func (b *both) sameEntries(told []api.Entry, want []entry) {
	b.t.Helper()
	if l := textsOf(told); !slices.Equal(l, want) {
		b.t.Fatalf("Entries: %+v, not %+v", l, want)
	}
	var ranges []api.Range
	var parts []int
	for _, e := range told {
		if slices.Contains(parts, e.Part) {
			b.t.Fatalf("Entries: %d is there twice", e.Part)
		}
		parts, ranges = append(parts, e.Part), append(ranges, e.Range)
	}
	if !key.Tiles(ranges) {
		b.t.Fatalf("Entries don't tile: %q", ranges)
	}
}

// agreeOfParts asks the range of each number that ever was one, and of others.
func (b *both) agreeOfParts(l []entry) {
	b.t.Helper()
	for _, part := range append([]int{-1, 1, 2, 15, 16, 1 << 32, math.MinInt, math.MaxInt}, b.were...) {
		i := slices.IndexFunc(l, func(e entry) bool { return e.part == part })
		var want span
		if i >= 0 {
			want = l[i].span
		}
		r, is := b.d.Of(part)
		if is != (i >= 0) || textOf(r) != want {
			b.t.Fatalf("Of(%d): %q, %v, not %q, %v", part, textOf(r), is, want, i >= 0)
		}
		spoil(r.From, r.To)
	}
}

// agreeOfKeys asks where bytes are: in just one range, which is that of the
// partition that Find tells.
func (b *both) agreeOfKeys(l []entry) {
	b.t.Helper()
	for _, k := range looks(l) {
		in := slices.DeleteFunc(slices.Clone(l), func(e entry) bool { return !e.span.has(k) })
		handed := roomy(k)
		part := b.d.Find(handed)
		if len(in) != 1 || part != in[0].part {
			b.t.Fatalf("Find(%q): %d, not %+v", k, part, in)
		}
		b.stays(handed, k)
		spoil(handed)
		if r, is := b.d.Of(part); !is || !key.In(r, []byte(k)) {
			b.t.Fatalf("Find(%q) is %d, whose range is %q, %v", k, part, r, is)
		}
	}
}

func (b *both) meet(l []entry, s span) {
	b.t.Helper()
	var want []int
	for _, e := range l {
		if e.span.meets(s) {
			want = append(want, e.part)
		}
	}
	r := s.bytes()
	told := b.d.Meet(r)
	if !slices.Equal(told, want) {
		b.t.Fatalf("Meet(%q): %v, not %v", s, told, want)
	}
	b.stays(r.From, s.from)
	b.stays(r.To, s.to)
	spoil(r.From, r.To)
	for i := range told[:cap(told)] {
		told[:cap(told)][i] = -9
	}
}

func (b *both) stays(handed []byte, was string) {
	b.t.Helper()
	if !untouched(handed, was) {
		b.t.Fatalf("what was handed in as %q is %q", was, handed[:cap(handed)])
	}
}

// Errors are held by ==, for each is to be the Code itself, not a wrapping.

func (b *both) split(part int, k string, fresh int) error {
	b.t.Helper()
	handed := roomy(k)
	err, want := b.d.Split(part, handed, fresh), b.m.split(part, k, fresh)
	if err != want {
		b.t.Fatalf("Split(%d, %q, %d): %v, not %v", part, k, fresh, err, want)
	}
	b.stays(handed, k)
	spoil(handed)
	b.ask(part)
	b.ask(fresh)
	b.agree()
	return want
}

func (b *both) merge(part int) (int, error) {
	b.t.Helper()
	n, err := b.d.Merge(part)
	want, fault := b.m.merge(part)
	if n != want || err != fault {
		b.t.Fatalf("Merge(%d): %d, %v, not %d, %v", part, n, err, want, fault)
	}
	b.ask(part)
	b.agree()
	return n, err
}

func (b *both) ask(part int) {
	if !slices.Contains(b.were, part) {
		b.were = append(b.were, part)
	}
}

// call is one that turns a directory, or may: a split, or else a merge.
type call struct {
	part  int
	k     string
	fresh int
	split bool
}

func (b *both) do(c call) {
	b.t.Helper()
	if c.split {
		b.split(c.part, c.k, c.fresh)
	} else {
		b.merge(c.part)
	}
}

// calls is all of some partitions, keys and fresh numbers.
func calls(parts []int, keys []string, fresh []int) []call {
	var l []call
	for _, part := range parts {
		l = append(l, call{part: part})
		for _, k := range keys {
			for _, f := range fresh {
				l = append(l, call{part, k, f, true})
			}
		}
	}
	return l
}

// allOf goes through each sequence of just so many calls.
func allOf(t *testing.T, many int, l []call) {
	t.Helper()
	places := make([]int, many)
	for {
		b := pairUp(t)
		for _, i := range places {
			b.do(l[i])
		}
		i := 0
		for ; i < many && places[i] == len(l)-1; i++ {
			places[i] = 0
		}
		if i == many {
			return
		}
		places[i]++
	}
}

func TestAllShortSequences(t *testing.T) { // P18.1, P18.2, P18.4
	allOf(t, 4, calls([]int{0, 1}, []string{"b", "d"}, []int{1, 2}))
	allOf(t, 3, calls([]int{0, 1, 2}, []string{"b", "bb"}, []int{1, 2}))
	allOf(t, 2, calls([]int{-1, 0, 1, 2}, []string{"", "\x00", "b", "d", strings.Repeat("a", 17)}, []int{-1, 0, 1, 2}))
}

// someKeys is keys that lie close and far, that others begin with, of MaxKey
// bytes, and some bytes that are none.
func someKeys() []string {
	l := []string{"", "\x00", "\x00\x00", "\x01", "\xff", "\xff\xff", strings.Repeat("\xff", 16), strings.Repeat("\xff", 17),
		strings.Repeat("\x00", 16), strings.Repeat("m", 16), strings.Repeat("m", 15), strings.Repeat("m", 17)}
	for k := 'a'; k <= 'z'; k++ {
		l = append(l, string(k), string(k)+"\x00", string(k)+"m")
	}
	return l
}

// drawPart is a partition that is there, mostly.
func (b *both) drawPart(draw func(int) int) int {
	l := b.m.list()
	if draw(8) == 0 {
		return draw(20) - 1
	}
	return l[draw(len(l))].part
}

func TestManySequences(t *testing.T) { // P18.1, P18.2, P18.4: of few keys, and of many
	draw := draws()
	for _, keys := range [][]string{{"b"}, {"a", "b", "c"}, {"b", "ba", "b\x00", "c", ""}, someKeys()} {
		for _, merges := range []int{1, 3, 6} { // of 8 calls
			for range 20 {
				b := pairUp(t)
				for range 60 {
					if draw(8) < merges {
						b.merge(b.drawPart(draw))
					} else {
						b.drawSplit(draw, keys)
					}
				}
			}
		}
	}
}

// drawSplit splits the partition in whose range the key is, mostly.
func (b *both) drawSplit(draw func(int) int, keys []string) {
	b.t.Helper()
	k := keys[draw(len(keys))]
	part := b.drawPart(draw)
	if draw(4) > 0 {
		part = b.m.find(k)
	}
	b.split(part, k, draw(24)-1)
}

func TestManySequencesUpToTheLastEntry(t *testing.T) { // P18.1, P18.2: where there is no room, again and again
	draw := draws()
	full := 0
	for range 20 {
		b := pairUp(t)
		for n := range 120 {
			if draw(12) == 0 {
				b.merge(b.drawPart(draw))
				continue
			}
			k := someKeys()[1+draw(len(someKeys())-1)]
			b.split(b.m.find(k), k, 100*n+draw(100))
			if len(b.m.begins) == 16 {
				full++
			}
		}
	}
	if full < 200 {
		t.Errorf("there were MaxParts only %d times", full)
	}
}

func TestManySequencesOfFarNumbers(t *testing.T) { // P18.1, P18.2, P1
	draw := draws()
	far := []int{math.MinInt, -1 << 32, -1, 0, 1, 2, 1 << 31, 1 << 32, 1<<32 + 1, 1<<32 + 2, math.MaxInt - 1, math.MaxInt}
	for range 60 {
		b := pairUp(t)
		for range 60 {
			if draw(4) == 0 {
				b.merge(far[draw(len(far))])
				continue
			}
			k := someKeys()[draw(len(someKeys()))]
			part := far[draw(len(far))]
			if draw(4) > 0 {
				part = b.m.find(k)
			}
			b.split(part, k, far[draw(len(far))])
		}
	}
}

func TestSplitAndMergedIsAsItWas(t *testing.T) { // P18.4: but for the version, which is two more
	eachState(t, func(t *testing.T, one func() *both) {
		b := one()
		was := b.m.list()
		for _, e := range was {
			for _, k := range insides(e.span) {
				v := b.m.version
				if err := b.split(e.part, k, 12345); err != nil {
					if err != api.ErrFull || len(was) < 16 {
						t.Fatalf("Split(%d, %q): %v", e.part, k, err)
					}
					continue
				}
				if n, err := b.merge(e.part); n != 12345 || err != nil {
					t.Fatalf("Merge(%d): %d, %v", e.part, n, err)
				}
				b.sameEntries(b.d.Entries(), was)
				if got := b.d.Version(); got != v+2 {
					t.Fatalf("Version: %d, not %d", got, v+2)
				}
			}
		}
	})
}

// insides is keys at which a range may be cut: close to where it begins, close
// to where it ends, and between.
func insides(s span) []string {
	var l []string
	for _, k := range []string{s.from + "\x00", s.from + "m", justBelow(s.to), "a", "m", "zz", "\xff"} {
		if len(k) >= 1 && len(k) <= 16 && s.has(k) && k != s.from {
			l = append(l, k)
		}
	}
	return l
}

func TestDirectoriesAreApart(t *testing.T) { // P18.1, P18.2: each goes by its own calls alone
	draw := draws()
	for range 20 {
		l := []*both{pairUp(t), pairUp(t), pairUp(t)}
		for range 60 {
			b := l[draw(len(l))]
			if draw(4) == 0 {
				b.merge(b.drawPart(draw))
			} else {
				b.drawSplit(draw, someKeys())
			}
			for _, b := range l {
				b.agree()
			}
		}
	}
}
