package dir_test

import (
	"math"
	"slices"
	"strings"
	"testing"

	"garnet/api"
)

// Keys of MaxKey bytes, and bytes of one more.
const (
	longM = "mmmmmmmmmmmmmmmm"
	overM = longM + "m"
)

func TestNumbers(t *testing.T) { // DOC.md, Words
	codes := []api.Code{api.ErrArg, api.ErrNone, api.ErrTwice, api.ErrFull, api.ErrRange}
	if api.MaxParts != 16 || api.MaxKey != 16 || !slices.Equal(codes, []api.Code{1, 3, 4, 5, 6}) {
		t.Error("there are other limits, or errors")
	}
}

func TestExample(t *testing.T) { // P18.2, the chapter's table
	d := newDir(t)
	if err := d.Split(0, []byte("m"), 1); err != nil {
		t.Fatalf("Split(0, m, 1): %v", err)
	}
	for _, k := range []string{"", "\x00", "a", "l", "l\xff\xff", strings.Repeat("l", 99)} {
		if part := d.Find([]byte(k)); part != 0 {
			t.Errorf("Find(%q): %d", k, part)
		}
	}
	for _, k := range []string{"m", "m\x00", "ma", "n", "z", "\xff", strings.Repeat("m", 99), strings.Repeat("\xff", 99)} {
		if part := d.Find([]byte(k)); part != 1 {
			t.Errorf("Find(%q): %d", k, part)
		}
	}
}

func TestNewIsAsNewAtFirst(t *testing.T) { // P18.1: one entry, all keys, partition 0, version 0
	d := newDir(t)
	if l := textsOf(d.Entries()); !slices.Equal(l, []entry{{}}) {
		t.Errorf("Entries: %+v", l)
	}
	if v := d.Version(); v != 0 {
		t.Errorf("Version: %d", v)
	}
	for _, k := range []string{"", "\x00", "a", longM, overM, strings.Repeat("\xff", 1000)} {
		if part := d.Find([]byte(k)); part != 0 {
			t.Errorf("Find(%q): %d", k, part)
		}
	}
	if part := d.Find(nil); part != 0 {
		t.Errorf("Find(nil): %d", part)
	}
	if r, is := d.Of(0); !is || textOf(r) != (span{}) {
		t.Errorf("Of(0): %q, %v", r, is)
	}
	for _, part := range []int{1, 2, -1, 15, 16, 1 << 32, -1 << 32, math.MaxInt, math.MinInt} {
		if r, is := d.Of(part); is || textOf(r) != (span{}) {
			t.Errorf("Of(%d): %q, %v", part, r, is)
		}
	}
	for _, r := range []api.Range{{}, {From: []byte("a")}, {To: []byte("a")}, {From: []byte("a"), To: []byte("a\x00")}} {
		if l := d.Meet(r); !slices.Equal(l, []int{0}) {
			t.Errorf("Meet(%q): %v", r, l)
		}
	}
}

// state is a way to a directory, by calls.
type state struct {
	name  string
	calls []call
}

// splits is splits of partitions at keys, for fresh numbers.
func splits(l ...call) []call {
	for i := range l {
		l[i].split = true
	}
	return l
}

// letters is the keys at which a directory of MaxParts is cut.
const letters = "bcdefghijklmnop"

// fill is a directory of MaxParts: cut at these letters, in that order, for
// numbers that a function tells.
func fill(order string, number func(i int) int) []call {
	m := newModel()
	var l []call
	for i, k := range order {
		c := call{part: m.find(string(k)), k: string(k), fresh: number(i), split: true}
		m.split(c.part, c.k, c.fresh)
		l = append(l, c)
	}
	return l
}

func rising(i int) int { return i + 1 }

func falling(i int) int { return 40 - i }

func gaps(i int) int { return (i*7+5)%16*1000 + 3 }

func far(i int) int { return []int{math.MaxInt - i, 1<<32 + i, 1<<31 + i}[i%3] }

// states is a directory's: of one entry, of some, of MaxParts; split in rising
// order, in falling order and in between; merged, too.
func states() []state {
	backward := []byte(letters)
	slices.Reverse(backward)
	full := fill(letters, rising)
	return []state{
		{"new", nil},
		{"split at m", splits(call{k: "m", fresh: 1})},
		{"split at the least key", splits(call{k: "\x00", fresh: 1})},
		{"split at the greatest key", splits(call{k: strings.Repeat("\xff", 16), fresh: 1})},
		{"rising", splits(call{k: "d", fresh: 1}, call{part: 1, k: "m", fresh: 2}, call{part: 2, k: "t", fresh: 3})},
		{"falling", splits(call{k: "t", fresh: 9}, call{k: "m", fresh: 5}, call{k: "d", fresh: 2})},
		{"between", splits(call{k: "d", fresh: 1}, call{part: 1, k: "t", fresh: 70}, call{part: 1, k: "m", fresh: 30})},
		{"of far numbers", splits(call{k: "m", fresh: math.MaxInt}, call{part: math.MaxInt, k: "t", fresh: 1 << 32}, call{k: "d", fresh: 1 << 31})},
		{"of long keys", splits(call{k: longM, fresh: 1}, call{part: 1, k: longM[:15] + "n", fresh: 2}, call{k: longM[:15], fresh: 3})},
		{"of one key", splits(call{k: "m", fresh: 1}, call{part: 1, k: "m\x00", fresh: 2})},
		{"of close keys", splits(call{k: "\x00", fresh: 4}, call{part: 4, k: "\x00\x00", fresh: 2}, call{part: 2, k: "\x00\x01", fresh: 3})},
		{"merged", append(splits(call{k: "m", fresh: 1}), call{part: 0})},
		{"merged in the middle", append(splits(call{k: "d", fresh: 1}, call{part: 1, k: "m", fresh: 2}, call{part: 2, k: "t", fresh: 3}), call{part: 1})},
		{"merged and split anew", append(splits(call{k: "m", fresh: 1}), call{part: 0}, call{k: "k", fresh: 1, split: true})},
		{"full, rising", full},
		{"full, falling", fill(string(backward), falling)},
		{"full, between", fill("hdlbfjnceg"+"ikmop", gaps)},
		{"full, of far numbers", fill("phcgokbfjndlmei", far)},
		{"full, merged", append(slices.Clone(full), call{part: 7})},
		{"full, merged and full", append(slices.Clone(full), call{part: 7}, call{part: 3, k: "d\x00", fresh: 8, split: true})},
	}
}

// eachState goes through them; f is given a way to one more of the same, each
// made anew.
func eachState(t *testing.T, f func(t *testing.T, one func() *both)) {
	for _, s := range states() {
		t.Run(s.name, func(t *testing.T) {
			f(t, func() *both {
				b := &both{t: t, d: newDir(t), m: newModel()}
				for _, c := range s.calls {
					b.quietly(c)
				}
				return b
			})
		})
	}
}

// quietly does a call that goes well, without a look behind it.
func (b *both) quietly(c call) {
	b.t.Helper()
	b.ask(c.part)
	b.ask(c.fresh)
	if c.split {
		if err, want := b.d.Split(c.part, []byte(c.k), c.fresh), b.m.split(c.part, c.k, c.fresh); err != nil || want != nil {
			b.t.Fatalf("Split(%d, %q, %d): %v, not %v", c.part, c.k, c.fresh, err, want)
		}
		return
	}
	n, err := b.d.Merge(c.part)
	if want, fault := b.m.merge(c.part); n != want || err != nil || fault != nil {
		b.t.Fatalf("Merge(%d): %d, %v, not %d, %v", c.part, n, err, want, fault)
	}
}

func TestEachState(t *testing.T) { // P18.1, P18.4: behind each call on the way to it
	for _, s := range states() {
		t.Run(s.name, func(t *testing.T) {
			b := pairUp(t)
			for _, c := range s.calls {
				v := b.d.Version()
				b.do(c)
				if b.d.Version() != v+1 {
					t.Errorf("Version: %d, behind %d", b.d.Version(), v)
				}
			}
			if full := strings.HasPrefix(s.name, "full") && !strings.HasSuffix(s.name, "merged"); full != (len(b.d.Entries()) == 16) {
				t.Errorf("there are %d entries", len(b.d.Entries()))
			}
		})
	}
}

// numbers is those of partitions that are there, that were merged away, and
// that never were, ones below 0 among them.
func (b *both) numbers() []int {
	return append([]int{-1, -2, math.MinInt, 17, 555, 1<<32 + 99, math.MaxInt - 99}, b.were...)
}

func TestSplitInEachState(t *testing.T) { // P18.2: of each partition, at each key, for each fresh number; and beside an error nothing has turned
	eachState(t, func(t *testing.T, one func() *both) {
		b := one()
		var keys []string
		for _, e := range b.m.list() {
			keys = append(keys, e.span.from, justBelow(e.span.from), e.span.from+"\x00")
		}
		keys = append(keys, "", "a", "z", longM, overM, strings.Repeat("q", 300), "\x00", strings.Repeat("\xff", 16), strings.Repeat("\xff", 17))
		for _, part := range b.numbers() {
			for _, k := range keys {
				for _, fresh := range []int{-1, math.MinInt, part, 0, 1, 17, math.MaxInt} {
					if b.quietSplit(part, k, fresh) == nil {
						b.agree()
						b = one()
					}
				}
			}
			b.agree()
		}
	})
}

// quietSplit is a split, with a look behind it at as little as tells that
// nothing has turned.
func (b *both) quietSplit(part int, k string, fresh int) error {
	b.t.Helper()
	was, v := len(b.d.Entries()), b.d.Version()
	err, want := b.d.Split(part, roomy(k), fresh), b.m.split(part, k, fresh)
	if err != want {
		b.t.Fatalf("Split(%d, %q, %d): %v, not %v", part, k, fresh, err, want)
	}
	if err != nil && (len(b.d.Entries()) != was || b.d.Version() != v) {
		b.t.Fatalf("Split(%d, %q, %d): %v, and %+v of version %d", part, k, fresh, err, textsOf(b.d.Entries()), b.d.Version())
	}
	return err
}

func TestMergeInEachState(t *testing.T) { // P18.2: of each partition; the number that was merged away may be fresh again
	eachState(t, func(t *testing.T, one func() *both) {
		for _, part := range one().numbers() {
			b := one()
			was, v := b.m.list(), b.m.version
			i := slices.IndexFunc(was, func(e entry) bool { return e.part == part })
			n, err := b.merge(part)
			if i < 0 || i == len(was)-1 {
				want := map[bool]error{true: api.ErrNone, false: api.ErrRange}[i < 0]
				if n != 0 || err != want || b.d.Version() != v {
					t.Errorf("Merge(%d): %d, %v, version %d", part, n, err, b.d.Version())
				}
				continue
			}
			if n != was[i+1].part || err != nil || b.d.Version() != v+1 {
				t.Errorf("Merge(%d): %d, %v, version %d", part, n, err, b.d.Version())
			}
			if r, is := b.d.Of(n); is || textOf(r) != (span{}) {
				t.Errorf("merged away: Of(%d): %q, %v", n, r, is)
			}
			if r, is := b.d.Of(part); !is || textOf(r) != (span{was[i].span.from, was[i+1].span.to}) {
				t.Errorf("merged: Of(%d): %q, %v", part, r, is)
			}
			if _, err := b.merge(n); err != api.ErrNone {
				t.Errorf("Merge(%d) of what was merged away: %v", n, err)
			}
			if err := b.split(part, was[i+1].span.from, n); err != nil {
				t.Errorf("Split for %d that was merged away: %v", n, err)
			}
			b.sameEntries(b.d.Entries(), was)
		}
	})
}

func TestMerge(t *testing.T) { // P18.2: of 0, 1, 2, 3, one behind the other
	for _, x := range []struct {
		name       string
		part, next int
		want       error
	}{
		{"the first one", 0, 1, nil},
		{"one in the middle", 1, 2, nil},
		{"the last but one", 2, 3, nil},
		{"the last one", 3, 0, api.ErrRange},
		{"one that isn't there", 4, 0, api.ErrNone},
		{"one below 0", -1, 0, api.ErrNone},
		{"a far one", math.MaxInt, 0, api.ErrNone},
	} {
		b := pairUp(t)
		for i, k := range []string{"d", "m", "t"} {
			b.split(i, k, i+1)
		}
		if n, err := b.merge(x.part); n != x.next || err != x.want {
			t.Errorf("%s: Merge(%d): %d, %v", x.name, x.part, n, err)
		}
	}
	b := pairUp(t)
	if n, err := b.merge(0); n != 0 || err != api.ErrRange {
		t.Errorf("the only one: %d, %v", n, err)
	}
	if n, err := b.merge(1); n != 0 || err != api.ErrNone { // ahead of ErrRange
		t.Errorf("one that isn't there, beside the only one: %d, %v", n, err)
	}
}

func TestMergeByPlaceAndNotByNumber(t *testing.T) { // P18.2: the next one by keys
	b := pairUp(t)
	b.split(0, "m", 7)
	b.split(0, "d", 3)
	b.split(7, "t", 1)
	for _, want := range []int{3, 7, 1} {
		if n, err := b.merge(0); n != want || err != nil {
			t.Errorf("Merge(0): %d, %v, not %d", n, err, want)
		}
	}
	if n, err := b.merge(0); n != 0 || err != api.ErrRange {
		t.Errorf("Merge(0) of the only one: %d, %v", n, err)
	}
	if v := b.d.Version(); v != 6 {
		t.Errorf("Version: %d", v)
	}
}

func TestSplitOfEachKind(t *testing.T) { // P18.2: of 0 up to d, 1 up to m, 2 up to t, 3
	for _, x := range []struct {
		name  string
		part  int
		k     string
		fresh int
		want  error
	}{
		{"between", 1, "g", 4, nil},
		{"the first one", 0, "b", 4, nil},
		{"the last one", 3, "w", 4, nil},
		{"for a far one", 1, "g", math.MaxInt, nil},
		{"at the least key", 0, "\x00", 4, nil},
		{"at the greatest key", 3, strings.Repeat("\xff", 16), 4, nil},
		{"at one of MaxKey bytes", 2, longM, 4, nil},
		{"just behind its From", 1, "d\x00", 4, nil},
		{"just below its To", 1, "l" + strings.Repeat("\xff", 15), 4, nil},
		{"at its From", 1, "d", 4, api.ErrRange},
		{"at its To", 1, "m", 4, api.ErrRange},
		{"just below its From", 1, "c" + strings.Repeat("\xff", 15), 4, api.ErrRange},
		{"just behind its To", 1, "m\x00", 4, api.ErrRange},
		{"far below it", 1, "\x00", 4, api.ErrRange},
		{"far behind it", 1, "z", 4, api.ErrRange},
		{"at the last one's From", 3, "t", 4, api.ErrRange},
		{"at the first one's To", 0, "d", 4, api.ErrRange},
		{"for one below 0", 1, "g", -1, api.ErrArg},
		{"for one far below 0", 1, "g", math.MinInt, api.ErrArg},
		{"at no key", 1, "", 4, api.ErrArg},
		{"the first one, at no key", 0, "", 4, api.ErrArg},
		{"at a key that is too long", 2, overM, 4, api.ErrArg},
		{"at a key that is much too long", 2, strings.Repeat("m", 1000), 4, api.ErrArg},
		{"one that isn't there", 4, "g", 5, api.ErrNone},
		{"one below 0", -1, "g", 4, api.ErrNone},
		{"one that isn't there, for itself", 4, "g", 4, api.ErrNone},
		{"for itself", 1, "g", 1, api.ErrTwice},
		{"for 0", 1, "g", 0, api.ErrTwice},
		{"for the next one", 1, "g", 2, api.ErrTwice},
		{"for the last one", 1, "g", 3, api.ErrTwice},
	} {
		b := pairUp(t)
		for i, k := range []string{"d", "m", "t"} {
			b.split(i, k, i+1)
		}
		was, v := b.m.list(), b.d.Version()
		if err := b.split(x.part, x.k, x.fresh); err != x.want {
			t.Errorf("%s: Split(%d, %q, %d): %v", x.name, x.part, x.k, x.fresh, err)
		}
		if x.want != nil {
			b.sameEntries(b.d.Entries(), was)
			if b.d.Version() != v {
				t.Errorf("%s: Version: %d", x.name, b.d.Version())
			}
			continue
		}
		r, is := b.d.Of(x.part)
		if i := x.part; !is || textOf(r) != (span{was[i].span.from, x.k}) {
			t.Errorf("%s: what is below: %q, %v", x.name, r, is)
		}
		r, is = b.d.Of(x.fresh)
		if i := x.part; !is || textOf(r) != (span{x.k, was[i].span.to}) {
			t.Errorf("%s: the rest: %q, %v", x.name, r, is)
		}
	}
}

func TestSplitAtNil(t *testing.T) { // P18.2: nil is no key
	b := pairUp(t)
	if err := b.d.Split(0, nil, 1); err != api.ErrArg {
		t.Errorf("Split(0, nil, 1): %v", err)
	}
	b.agree()
}

func TestSplitOfTheNewOne(t *testing.T) { // P18.2: for 0 is for itself
	b := pairUp(t)
	if err := b.split(0, "m", 0); err != api.ErrTwice {
		t.Errorf("Split(0, m, 0): %v", err)
	}
}

func TestUpToTheSixteenthEntry(t *testing.T) { // P18.2: and the one behind it, for which there is room again behind a merge
	for _, s := range states() {
		if !strings.HasPrefix(s.name, "full, ") || strings.Contains(s.name, "merged") {
			continue
		}
		b := pairUp(t)
		for i, c := range s.calls {
			if n := len(b.d.Entries()); n != i+1 {
				t.Fatalf("%s: %d entries behind %d splits", s.name, n, i)
			}
			if err := b.split(c.part, c.k, c.fresh); err != nil {
				t.Fatalf("%s: split %d: %v", s.name, i, err)
			}
		}
		for _, k := range []string{"ff", "g", "fm", "g"} { // f's next one is merged away, and a new one begins at this key
			for _, e := range b.m.list() {
				if err := b.split(e.part, e.span.from+"q", 500); err != api.ErrFull {
					t.Errorf("%s: Split(%d), the seventeenth: %v", s.name, e.part, err)
				}
			}
			part := b.m.find("f")
			if _, err := b.merge(part); err != nil {
				t.Errorf("%s: Merge(%d): %v", s.name, part, err)
			}
			if err := b.split(part, k, 600); err != nil {
				t.Errorf("%s: Split(%d, %q), where there is room again: %v", s.name, part, k, err)
			}
		}
	}
}

// fullOne is a directory of MaxParts: cut at letters, for 1 to 15.
func fullOne(t *testing.T) *both {
	b := pairUp(t)
	for _, c := range fill(letters, rising) {
		b.quietly(c)
	}
	return b
}

func TestWhichErrorComesFirst(t *testing.T) { // P18.2, R1: each pair of them, and all of them
	for _, x := range []struct {
		name  string
		full  bool
		part  int
		k     string
		fresh int
		want  error
	}{
		{"fresh below 0, none", false, 9, "m", -1, api.ErrArg},
		{"no key, none", false, 9, "", 1, api.ErrArg},
		{"too long, none", false, 9, overM, 1, api.ErrArg},
		{"no key, twice", false, 0, "", 0, api.ErrArg},
		{"too long, twice", false, 0, overM, 0, api.ErrArg},
		{"fresh below 0, full", true, 1, "bb", -1, api.ErrArg},
		{"no key, full", true, 1, "", 99, api.ErrArg},
		{"too long, full", true, 12, overM, 99, api.ErrArg},
		{"fresh below 0, range", true, 1, "z", -1, api.ErrArg},
		{"no key, range", true, 1, "", 99, api.ErrArg},
		{"too long, range", true, 1, overM, 99, api.ErrArg},
		{"no key, and all others", true, 1, "", 1, api.ErrArg},
		{"fresh below 0, for itself", false, -1, "m", -1, api.ErrArg},
		{"none, twice", false, 9, "m", 0, api.ErrNone},
		{"none, full", true, 99, "bb", 98, api.ErrNone},
		{"none, range", true, 99, "b", 98, api.ErrNone},
		{"none, twice, full", true, 99, "bb", 3, api.ErrNone},
		{"none, twice, full, range", true, 99, "b", 3, api.ErrNone},
		{"below 0, twice, full, range", true, -1, "b", 3, api.ErrNone},
		{"twice, full", true, 1, "bb", 2, api.ErrTwice},
		{"twice for itself, full", true, 1, "bb", 1, api.ErrTwice},
		{"twice, range", true, 1, "z", 2, api.ErrTwice},
		{"twice, at its From, full", true, 1, "b", 2, api.ErrTwice},
		{"full, behind its To", true, 1, "z", 99, api.ErrFull},
		{"full, at its To", true, 1, "c", 99, api.ErrFull},
		{"full, at its From", true, 1, "b", 99, api.ErrFull},
		{"full, below its From", true, 1, "a", 99, api.ErrFull},
		{"full alone", true, 1, "bb", 99, api.ErrFull},
	} {
		b := pairUp(t)
		if x.full {
			b = fullOne(t)
		}
		was, v := b.m.list(), b.d.Version()
		if err := b.d.Split(x.part, []byte(x.k), x.fresh); err != x.want {
			t.Errorf("%s: Split(%d, %q, %d): %v, not %v", x.name, x.part, x.k, x.fresh, err, x.want)
		}
		b.sameEntries(b.d.Entries(), was)
		if b.d.Version() != v {
			t.Errorf("%s: Version: %d", x.name, b.d.Version())
		}
	}
	b := pairUp(t)
	b.split(0, "m", 1)
	for _, x := range []struct {
		name string
		part int
		k    string
	}{{"its From", 1, "m"}, {"its To", 0, "m"}, {"behind", 0, "n"}, {"below", 1, "l"}} { // where there is room
		if err := b.split(x.part, x.k, 1); err != api.ErrTwice {
			t.Errorf("%s, twice: Split(%d, %q, 1): %v", x.name, x.part, x.k, err)
		}
		if err := b.split(x.part, x.k, -1); err != api.ErrArg {
			t.Errorf("%s, fresh below 0: Split(%d, %q, -1): %v", x.name, x.part, x.k, err)
		}
	}
}

func TestFind(t *testing.T) { // P18.1: of 0 up to d, 1 up to m, 2 up to t, 3; of any bytes
	b := pairUp(t)
	for i, k := range []string{"d", "m", "t"} {
		b.split(i, k, i+1)
	}
	for _, x := range []struct {
		k    string
		want int
	}{
		{"", 0}, {"\x00", 0}, {"a", 0}, {"c\xff\xff", 0}, {"c" + strings.Repeat("\xff", 100), 0},
		{"d", 1}, {"d\x00", 1}, {"dd", 1}, {"l\xff\xff", 1}, {"d" + strings.Repeat("\x00", 100), 1},
		{"m", 2}, {"m\x00", 2}, {longM, 2}, {overM, 2}, {strings.Repeat("m", 1000), 2}, {"s\xff", 2},
		{"t", 3}, {"t\x00", 3}, {"zz", 3}, {"\x80", 3}, {"\xff", 3}, {strings.Repeat("\xff", 1000), 3},
	} {
		if part := b.d.Find([]byte(x.k)); part != x.want {
			t.Errorf("Find(%q): %d, not %d", x.k, part, x.want)
		}
	}
	if part := b.d.Find(nil); part != 0 {
		t.Errorf("Find(nil): %d", part)
	}
}

func TestOf(t *testing.T) { // P18.1
	b := pairUp(t)
	for i, k := range []string{"d", "m", "t"} {
		b.split(i, k, i+1)
	}
	b.merge(1) // 2 is merged away
	for _, x := range []struct {
		part int
		want span
		is   bool
	}{
		{0, span{"", "d"}, true}, {1, span{"d", "t"}, true}, {3, span{"t", ""}, true},
		{2, span{}, false}, {4, span{}, false}, {-1, span{}, false}, {math.MinInt, span{}, false},
		{math.MaxInt, span{}, false}, {1 << 32, span{}, false}, {1<<32 + 1, span{}, false},
	} {
		if r, is := b.d.Of(x.part); textOf(r) != x.want || is != x.is {
			t.Errorf("Of(%d): %q, %v", x.part, r, is)
		}
	}
}

func TestMeet(t *testing.T) { // P18.1: of 0 up to d, 7 up to m, 5 up to t, 2; by keys, not by numbers
	b := pairUp(t)
	b.split(0, "m", 5)
	b.split(0, "d", 7)
	b.split(5, "t", 2)
	for _, x := range []struct {
		name, from, to string
		want           []int
	}{
		{"all keys", "", "", []int{0, 7, 5, 2}},
		{"one key", "m", "m\x00", []int{5}},
		{"one key, the last of one", "l\xff", "l\xff\x00", []int{7}},
		{"one entry's own", "d", "m", []int{7}},
		{"two entries' own", "d", "t", []int{7, 5}},
		{"that ends just where an entry begins", "a", "d", []int{0}},
		{"that ends just behind that", "a", "d\x00", []int{0, 7}},
		{"that begins just where one ends", "m", "o", []int{5}},
		{"that begins just ahead of that", "l\xff", "o", []int{7, 5}},
		{"within one", "e", "f", []int{7}},
		{"within the first one", "a", "b", []int{0}},
		{"within the last one", "u", "v", []int{2}},
		{"across two", "e", "n", []int{7, 5}},
		{"across some", "a", "n", []int{0, 7, 5}},
		{"across all", "a", "z", []int{0, 7, 5, 2}},
		{"without an end", "n", "", []int{5, 2}},
		{"without an end, within the last one", "u", "", []int{2}},
		{"without an end, from an entry on", "t", "", []int{2}},
		{"without a beginning", "", "e", []int{0, 7}},
		{"without a beginning, up to an entry", "", "d", []int{0}},
		{"without a key in it", "", "\x00", []int{0}},
		{"of keys of MaxKey bytes", longM, longM[:15] + "n", []int{5}},
		{"To is From", "m", "m", nil},
		{"To is less", "t", "d", nil},
		{"From is too long", overM, "t", nil},
		{"From is too long, no end", overM, "", nil},
		{"To is too long", "a", overM, nil},
		{"To is too long, no beginning", "", overM, nil},
		{"both are too long", overM, overM + "m", nil},
	} {
		r := api.Range{From: []byte(x.from), To: []byte(x.to)}
		if l := b.d.Meet(r); !slices.Equal(l, x.want) {
			t.Errorf("%s: Meet(%q, %q): %v, not %v", x.name, x.from, x.to, l, x.want)
		}
	}
	if l := b.d.Meet(api.Range{}); !slices.Equal(l, []int{0, 7, 5, 2}) {
		t.Errorf("Meet of a zero range: %v", l)
	}
}

func TestManyVersions(t *testing.T) { // P18.1: one more with each change, and none without one
	b := pairUp(t)
	for i := range 200 {
		b.quietly(call{k: "m", fresh: i%7 + 1, split: true})
		if v := b.d.Version(); v != uint64(2*i+1) {
			t.Fatalf("Version: %d", v)
		}
		if err := b.d.Split(0, []byte("m"), 8); err != api.ErrRange {
			t.Fatalf("Split at its To: %v", err)
		}
		if _, err := b.d.Merge(8); err != api.ErrNone {
			t.Fatalf("Merge(8): %v", err)
		}
		b.quietly(call{part: 0})
		if v := b.d.Version(); v != uint64(2*i+2) {
			t.Fatalf("Version: %d", v)
		}
	}
	b.agree()
}
