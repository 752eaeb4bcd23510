package dir_test

import (
	"bytes"
	"slices"
	"testing"

	"garnet/api"
)

// roomy is a text's bytes with room behind them, where a careless append
// would write.
func roomy(s string) []byte {
	return append(bytes.Repeat([]byte{'#'}, len(s)+40)[:0], s...)
}

// untouched tells whether these bytes, and the room behind, are as roomy made
// them.
func untouched(b []byte, s string) bool {
	fresh := roomy(s)
	return string(b) == s && cap(b) == cap(fresh) && string(b[:cap(b)]) == string(fresh[:cap(fresh)])
}

// spoil writes over bytes, and over the room behind them.
func spoil(lists ...[]byte) {
	for _, b := range lists {
		b = b[:cap(b)]
		for i := range b {
			b[i] = '!'
		}
	}
}

// spoilEntries writes over all that entries reach: bytes, the list of them,
// and the room behind.
func spoilEntries(l []api.Entry) {
	l = l[:cap(l)]
	for i, e := range l {
		spoil(e.Range.From, e.Range.To)
		l[i] = api.Entry{Range: api.Range{From: []byte("!"), To: []byte("!")}, Part: -9}
	}
}

func TestWhatIsHandedInStays(t *testing.T) { // P18.3: beside errors, too, and whatever comes behind it
	eachState(t, func(t *testing.T, one func() *both) {
		b := one()
		var handed [][]byte
		var were []string
		hand := func(s string) []byte {
			k := roomy(s)
			handed, were = append(handed, k), append(were, s)
			return k
		}
		for i, k := range looks(b.m.list()) {
			b.d.Find(hand(k))
			b.d.Meet(api.Range{From: hand(k), To: hand("q")})
			b.d.Meet(api.Range{From: hand("d"), To: hand(k)})
			b.d.Split(b.d.Find([]byte(k)), hand(k), 500+i)
			b.d.Split(b.d.Find([]byte(k)), hand(k), 0)
			b.d.Split(777, hand(k), 778)
			b.d.Split(0, hand(k), -1)
			b.d.Merge(b.d.Find(hand(k)))
			spoilEntries(b.d.Entries())
		}
		for i, k := range handed {
			b.stays(k, were[i])
		}
	})
}

func TestWhatIsHandedInIsNotKept(t *testing.T) { // P18.3, R2: it is written over, and the directory goes on
	b := pairUp(t)
	keys := []string{"m", "f", "t", "c", "h", "p", "w", "mm"}
	var handed [][]byte
	for i, k := range keys {
		one := roomy(k)
		if err, want := b.d.Split(b.m.find(k), one, i+1), b.m.split(b.m.find(k), k, i+1); err != nil || want != nil {
			t.Fatalf("Split at %q: %v", k, err)
		}
		handed = append(handed, one)
	}
	l := b.m.list()
	for _, k := range keys {
		one, other, ask := roomy(k), roomy("z"), roomy(k)
		told := b.d.Meet(api.Range{From: one, To: other})
		part := b.d.Find(ask)
		spoil(one, other, ask)
		if part != b.m.find(k) || len(told) == 0 || told[0] != part {
			t.Fatalf("behind writes %q is of %d, and meets %v", k, part, told)
		}
	}
	spoil(handed...)
	b.sameEntries(b.d.Entries(), l)
	b.agree()
	b.merge(b.m.find("f"))
	b.split(b.m.find("mmm"), "mmm", 9)
}

func TestWhatIsToldIsNewMemory(t *testing.T) { // P18.3: it is written over, and told anew
	eachState(t, func(t *testing.T, one func() *both) {
		b := one()
		for _, e := range b.m.list() {
			r, _ := b.d.Of(e.part)
			spoil(r.From, r.To)
			b.agree()
			spoilEntries(b.d.Entries())
			b.agree()
			told := b.d.Meet(api.Range{})
			for i := range told[:cap(told)] {
				told[:cap(told)][i] = -9
			}
			b.agree()
		}
	})
}

func TestWhatWasToldStays(t *testing.T) { // P18.3: whatever is done behind it
	eachState(t, func(t *testing.T, one func() *both) {
		b := one()
		was := b.m.list()
		entries, parts := b.d.Entries(), b.d.Meet(api.Range{})
		ranges := make([]api.Range, len(was))
		for i, e := range was {
			ranges[i], _ = b.d.Of(e.part)
		}
		for len(b.m.begins) > 1 {
			b.merge(b.m.list()[0].part)
		}
		for i, k := range letters {
			if err := b.split(b.m.find(string(k)), string(k), 900+i); err != nil {
				t.Fatalf("Split at %q: %v", k, err)
			}
		}
		b.sameEntries(entries, was)
		if !slices.EqualFunc(parts, was, func(n int, e entry) bool { return n == e.part }) {
			t.Errorf("Meet had told %v", parts)
		}
		if !slices.EqualFunc(ranges, was, func(r api.Range, e entry) bool { return textOf(r) == e.span }) {
			t.Errorf("Of had told %q", ranges)
		}
	})
}

func TestTwoLooksShareNothing(t *testing.T) { // P18.3: the one is written over, the other stays
	eachState(t, func(t *testing.T, one func() *both) {
		b := one()
		was := b.m.list()
		first, second := b.d.Entries(), b.d.Entries()
		some, same := b.d.Meet(api.Range{}), b.d.Meet(api.Range{})
		for i, e := range was {
			r, _ := b.d.Of(e.part)
			q, _ := b.d.Of(e.part)
			spoil(r.From, r.To)
			if textOf(q) != e.span {
				t.Errorf("Of(%d): %q", e.part, q)
			}
			some[i] = -9
			if same[i] != e.part {
				t.Errorf("Meet: %v", same)
			}
		}
		spoilEntries(first)
		b.sameEntries(second, was)
	})
}

func TestNoTwoListsOfOneAnswerShareMemory(t *testing.T) { // P18.3: one entry's To, and the next one's From, neither
	eachState(t, func(t *testing.T, one func() *both) {
		b := one()
		for _, e := range b.m.list() {
			r, _ := b.d.Of(e.part)
			apart(t, [][]byte{r.From, r.To}, []string{e.span.from, e.span.to})
		}
		var lists [][]byte
		var want []string
		for i, e := range b.d.Entries() {
			lists = append(lists, e.Range.From, e.Range.To)
			want = append(want, b.m.list()[i].span.from, b.m.list()[i].span.to)
		}
		apart(t, lists, want)
	})
}

// apart holds that no list that was told follows another one.
func apart(t *testing.T, lists [][]byte, want []string) {
	t.Helper()
	for i, b := range lists {
		if string(b) != want[i] {
			t.Fatalf("list %d is %q, not %q", i, b, want[i])
		}
		spoil(b)
	}
}
