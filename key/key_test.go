package key_test

import (
	"bytes"
	"slices"
	"strings"
	"testing"

	"garnet/api"
	"garnet/key"
)

// Keys of MaxKey bytes, and of one more.
const (
	longA = "aaaaaaaaaaaaaaaa"
	longZ = "zzzzzzzzzzzzzzzz"
	overA = longA + "a"
	overZ = longZ + "z"
)

// rng is a range, told by texts.
func rng(from, to string) api.Range {
	return api.Range{From: []byte(from), To: []byte(to)}
}

// rngs is ranges, told by texts: a From and a To each.
func rngs(texts ...string) []api.Range {
	var l []api.Range
	for i := 0; i < len(texts); i += 2 {
		l = append(l, rng(texts[i], texts[i+1]))
	}
	return l
}

func same(a, b api.Range) bool {
	return bytes.Equal(a.From, b.From) && bytes.Equal(a.To, b.To)
}

func zero(r api.Range) bool { return len(r.From) == 0 && len(r.To) == 0 }

// order is the chapter's, byte by byte.
func order(a, b string) int {
	for i := 0; i < len(a) && i < len(b); i++ {
		if a[i] < b[i] {
			return -1
		}
		if a[i] > b[i] {
			return 1
		}
	}
	switch {
	case len(a) < len(b):
		return -1
	case len(a) > len(b):
		return 1
	}
	return 0
}

// mayBe is the chapter's word of a range.
func mayBe(from, to string) bool {
	return len(from) <= 16 && len(to) <= 16 && (to == "" || order(to, from) > 0)
}

// lies is the chapter's word of a key in a range.
func lies(from, to, k string) bool {
	return order(k, from) >= 0 && (to == "" || order(to, k) > 0)
}

// words is bytes of all kinds: none, few, those that others begin with, the
// least and the greatest byte, no UTF-8, of MaxKey bytes, of more.
func words() []string {
	return []string{
		"", "\x00", "\x00\x00", "\x00\x01", "\x01", "a", "a\x00", "aa", "ab", "ab\xff", "b", "ba", "c",
		"m", "\x7f", "\x80", "\xfe", "\xff", "\xff\x00", "\xff\xff",
		longA, longA[:15], longA[:15] + "b", longZ, overA, overZ,
		strings.Repeat("\x00", 16), strings.Repeat("\x00", 17),
		strings.Repeat("\xff", 16), strings.Repeat("\xff", 17),
	}
}

// sounds is all ranges of these words that may be.
func sounds() []api.Range {
	var l []api.Range
	for _, from := range words() {
		for _, to := range words() {
			if mayBe(from, to) {
				l = append(l, rng(from, to))
			}
		}
	}
	return l
}

// unsounds is one range of each way in which it may not be.
func unsounds() []api.Range {
	return rngs(
		"b", "b", "b", "a", "ab", "a", "\xff", "\x00", longA, longA, longZ, longA,
		overA, "", overA, "b", "", overA, "a", overZ, overA, overZ, overZ, overA, overA, overA,
	)
}

// draws is numbers that look like chance and are the same in each run.
func draws() func(k int) int {
	seed := uint64(1)
	return func(k int) int {
		seed = seed*6364136223846793005 + 1442695040888963407
		return int(seed>>33) % k
	}
}

func TestMay(t *testing.T) { // P5.1
	for n := range 300 {
		for _, b := range []byte{0, 'a', 0xff} {
			k := bytes.Repeat([]byte{b}, n)
			if got, want := key.May(k), n >= 1 && n <= 16; got != want {
				t.Errorf("May of %d bytes %x: %v", n, b, got)
			}
		}
	}
	if key.May(nil) || key.May(make([]byte, 0, 8)) || key.May(make([]byte, 1<<20)) {
		t.Error("May of none, or of a great many")
	}
}

func TestFair(t *testing.T) { // P5.1
	for n := range 300 {
		for _, b := range []byte{0, 'a', 0xff} {
			v := bytes.Repeat([]byte{b}, n)
			if got, want := key.Fair(v), n <= 32; got != want {
				t.Errorf("Fair of %d bytes %x: %v", n, b, got)
			}
		}
	}
	if !key.Fair(nil) || !key.Fair(make([]byte, 0, 99)) || key.Fair(make([]byte, 1<<20)) {
		t.Error("Fair of none, or of a great many")
	}
}

func TestCompare(t *testing.T) { // P5.1
	for _, x := range []struct {
		a, b string
		want int
	}{
		{"a", "b", -1}, {"b", "a", 1}, {"a", "a", 0},
		{"", "", 0}, {"", "\x00", -1}, {"\x00", "", 1}, // of any bytes
		{"a", "ab", -1}, {"ab", "a", 1}, {"a", "a\x00", -1}, // one that another one begins with
		{"ab", "b", -1}, {"b", "ab", 1}, {"a\xff\xff", "b", -1}, // bytes, not lengths
		{"\x7f", "\x80", -1}, {"\xff", "\x00", 1}, // bytes have no sign
		{"B", "a", -1}, {"10", "9", -1}, // neither letters nor numbers
		{longA, longA, 0}, {longA[:15], longA, -1}, {longA, overA, -1}, {longA, longA[:15] + "b", -1},
	} {
		if got := key.Compare([]byte(x.a), []byte(x.b)); got != x.want {
			t.Errorf("Compare(%q, %q): %d, not %d", x.a, x.b, got, x.want)
		}
	}
	if key.Compare(nil, []byte{}) != 0 || key.Compare([]byte{}, nil) != 0 || key.Compare(nil, nil) != 0 {
		t.Error("nil isn't an empty one")
	}
}

func TestCompareAllWords(t *testing.T) { // P5.1
	for _, a := range words() {
		for _, b := range words() {
			if got, want := key.Compare([]byte(a), []byte(b)), order(a, b); got != want {
				t.Errorf("Compare(%q, %q): %d, not %d", a, b, got, want)
			}
		}
	}
}

func TestSound(t *testing.T) { // P5.1
	for _, x := range []struct {
		name, from, to string
		want           bool
	}{
		{"ordinary", "b", "d", true},
		{"both empty", "", "", true},
		{"From empty", "", "a", true},
		{"To empty", "a", "", true},
		{"all below the least key", "", "\x00", true},
		{"To is From", "b", "b", false},
		{"To is less", "d", "b", false},
		{"To begins with From", "a", "a\x00", true},
		{"From begins with To", "ab", "a", false},
		{"From of MaxKey", longA, "b", true},
		{"From of MaxKey, no end", longA, "", true},
		{"To of MaxKey", "a", longZ, true},
		{"From empty, To of MaxKey", "", longZ, true},
		{"both of MaxKey", longA, longZ, true},
		{"both of MaxKey, alike", longA, longA, false},
		{"From of one more", overA, "b", false},
		{"From of one more, no end", overA, "", false},
		{"To of one more", "a", overZ, false},
		{"From empty, To of one more", "", overZ, false},
		{"both of one more", overA, overZ, false},
		{"a great many", strings.Repeat("a", 1<<20), "", false},
	} {
		if got := key.Sound(rng(x.from, x.to)); got != x.want {
			t.Errorf("%s: Sound(%q, %q): %v", x.name, x.from, x.to, got)
		}
	}
	if !key.Sound(api.Range{}) || !key.Sound(api.Range{From: []byte("a")}) || !key.Sound(api.Range{To: []byte("a")}) {
		t.Error("nil isn't an empty end")
	}
	for _, r := range unsounds() {
		if key.Sound(r) {
			t.Errorf("Sound(%q)", r)
		}
	}
}

func TestIn(t *testing.T) { // P5.1
	for _, x := range []struct {
		name, from, to, k string
		want              bool
	}{
		{"between", "b", "d", "c", true},
		{"From", "b", "d", "b", true},
		{"To", "b", "d", "d", false},
		{"just below From", "b", "d", "a\xff", false},
		{"just behind From", "b", "d", "b\x00", true},
		{"just below To", "b", "d", "c\xff\xff", true},
		{"just behind To", "b", "d", "d\x00", false},
		{"far below", "b", "d", "\x00", false},
		{"far behind", "b", "d", "z", false},
		{"no end", "b", "", "\xff\xff", true},
		{"no end, From", "b", "", "b", true},
		{"no end, below From", "b", "", "a", false},
		{"From empty", "", "b", "\x00", true},
		{"From empty, To", "", "b", "b", false},
		{"all keys, the least", "", "", "\x00", true},
		{"all keys, the greatest", "", "", strings.Repeat("\xff", 16), true},
		{"no key is below the least", "", "\x00", "\x00", false},
		{"one key alone", "a", "a\x00", "a", true},
		{"one key alone, another", "a", "a\x00", "aa", false},
		{"of MaxKey", longA, longZ, longA, true},
		{"of MaxKey, To", longA, longZ, longZ, false},
		{"To is From", "b", "b", "b", false},
		{"To is less", "d", "b", "c", false},
		{"any bytes: none", "", "", "", true},
		{"any bytes: none, with an end", "", "\x00", "", true},
		{"any bytes: none, behind a From", "a", "", "", false},
		{"any bytes: more than MaxKey", "a", "b", overA, true},
		{"any bytes: more than MaxKey, behind To", "a", "b", overZ, false},
	} {
		if got := key.In(rng(x.from, x.to), []byte(x.k)); got != x.want {
			t.Errorf("%s: In(%q, %q, %q): %v", x.name, x.from, x.to, x.k, got)
		}
	}
	if !key.In(api.Range{}, nil) || key.In(rng("a", ""), nil) || !key.In(api.Range{}, []byte("a")) {
		t.Error("nil isn't an empty one")
	}
}

func TestSoundAndInAllWords(t *testing.T) { // P5.1
	for _, from := range words() {
		for _, to := range words() {
			r := rng(from, to)
			if got, want := key.Sound(r), mayBe(from, to); got != want {
				t.Errorf("Sound(%q, %q): %v", from, to, got)
			}
			for _, k := range words() {
				if got, want := key.In(r, []byte(k)), lies(from, to, k); got != want {
					t.Errorf("In(%q, %q, %q): %v", from, to, k, got)
				}
			}
		}
	}
}

func TestCut(t *testing.T) { // P5.2
	for _, x := range []struct {
		name, from, to, k string
		want              error
	}{
		{"the chapter's table", "b", "d", "c", nil},
		{"From empty", "", "d", "c", nil},
		{"To empty", "b", "", "c", nil},
		{"all keys", "", "", "c", nil},
		{"all keys, at the least", "", "", "\x00", nil},
		{"just behind From", "b", "d", "b\x00", nil},
		{"just below To", "b", "d", "c\xff", nil},
		{"at one of MaxKey", "a", "b", longA, nil},
		{"between two of MaxKey", longA, longZ, "m", nil},
		{"at From", "b", "d", "b", api.ErrRange},
		{"at From, no end", "b", "", "b", api.ErrRange},
		{"at From of MaxKey", longA, longZ, longA, api.ErrRange},
		{"at To", "b", "d", "d", api.ErrRange},
		{"below", "b", "d", "a", api.ErrRange},
		{"below, no end", "b", "", "a\xff", api.ErrRange},
		{"behind", "b", "d", "e", api.ErrRange},
		{"at the least, that is To", "", "\x00", "\x00", api.ErrRange},
		{"at none", "b", "d", "", api.ErrArg},
		{"at none, that is From", "", "d", "", api.ErrArg},
		{"at one more than MaxKey, in it", "a", "b", overA, api.ErrArg},
		{"at one more than MaxKey, not in it", "a", "b", overZ, api.ErrArg},
		{"To is From", "b", "b", "c", api.ErrArg},
		{"To is From, and the key", "b", "b", "b", api.ErrArg},
		{"To is less, the key between", "d", "b", "c", api.ErrArg},
		{"From of one more, the key in it", overA, "c", "b", api.ErrArg},
		{"From of one more, the key not in it", overA, "c", "z", api.ErrArg},
		{"To of one more, the key in it", "a", overZ, "b", api.ErrArg},
		{"To of one more, the key From", "a", overZ, "a", api.ErrArg},
		{"neither may be", "d", "b", "", api.ErrArg},
	} {
		low, high, err := key.Cut(rng(x.from, x.to), []byte(x.k))
		if err != x.want {
			t.Errorf("%s: Cut(%q, %q, %q): %v, not %v", x.name, x.from, x.to, x.k, err, x.want)
		}
		if err != nil && !(zero(low) && zero(high)) {
			t.Errorf("%s: beside an error: %q, %q", x.name, low, high) // R3
		}
		if err == nil && !(same(low, rng(x.from, x.k)) && same(high, rng(x.k, x.to))) {
			t.Errorf("%s: %q, %q", x.name, low, high)
		}
	}
}

func TestCutOfNil(t *testing.T) { // P5.2, P1
	if _, _, err := key.Cut(api.Range{}, nil); err != api.ErrArg {
		t.Errorf("at nil: %v", err)
	}
	low, high, err := key.Cut(api.Range{}, []byte("m"))
	if err != nil || !same(low, rng("", "m")) || !same(high, rng("m", "")) {
		t.Errorf("of a zero range: %q, %q, %v", low, high, err)
	}
}

func TestJoin(t *testing.T) { // P5.2
	for _, x := range []struct {
		name, from, to, next, end string
		want                      error
	}{
		{"ordinary", "b", "c", "c", "d", nil},
		{"From empty", "", "c", "c", "d", nil},
		{"no end", "b", "c", "c", "", nil},
		{"to all keys", "", "c", "c", "", nil},
		{"at one of MaxKey", "a", longA, longA, "b", nil},
		{"no key in the first one", "", "\x00", "\x00", "a", nil},
		{"the first one has no end", "b", "", "c", "d", api.ErrRange},
		{"the first one has no end, the second no beginning", "b", "", "", "d", api.ErrRange},
		{"all keys twice", "", "", "", "", api.ErrRange},
		{"a gap", "a", "b", "c", "d", api.ErrRange},
		{"a small gap", "a", "b", "b\x00", "d", api.ErrRange},
		{"an overlap", "a", "c", "b", "d", api.ErrRange},
		{"the other way round", "c", "d", "b", "c", api.ErrRange},
		{"itself", "b", "c", "b", "c", api.ErrRange},
		{"one inside the other", "a", "z", "b", "c", api.ErrRange},
		{"the second one has no beginning", "b", "c", "", "d", api.ErrRange},
		{"the first one's To is its From", "c", "c", "c", "d", api.ErrArg},
		{"the first one's To is less", "d", "c", "c", "e", api.ErrArg},
		{"the second one's To is its From", "b", "c", "c", "c", api.ErrArg},
		{"the second one's To is less", "b", "c", "c", "a", api.ErrArg},
		{"the first one's From is too long", overA, "c", "c", "d", api.ErrArg},
		{"both too long where they touch", "a", overZ, overZ, "", api.ErrArg},
		{"the second one's To is too long", "b", "c", "c", overZ, api.ErrArg},
		{"the first may not be, and no end", overA, "", "c", "d", api.ErrArg},
		{"the second may not be, and a gap", "a", "b", "d", "c", api.ErrArg},
		{"the second may not be, the first has no end", "a", "", "d", "c", api.ErrArg},
		{"neither may be", "b", "a", "d", "c", api.ErrArg},
	} {
		got, err := key.Join(rng(x.from, x.to), rng(x.next, x.end))
		if err != x.want {
			t.Errorf("%s: Join(%q, %q; %q, %q): %v, not %v", x.name, x.from, x.to, x.next, x.end, err, x.want)
		}
		if err != nil && !zero(got) {
			t.Errorf("%s: beside an error: %q", x.name, got) // R3
		}
		if err == nil && !same(got, rng(x.from, x.end)) {
			t.Errorf("%s: %q", x.name, got)
		}
	}
}

func TestMeet(t *testing.T) { // P5.2
	for _, x := range []struct {
		name, from, to, next, end string
		want                      bool
		low, high                 string
	}{
		{"overlapping", "a", "c", "b", "d", true, "b", "c"},
		{"itself", "a", "c", "a", "c", true, "a", "c"},
		{"one inside the other", "a", "z", "b", "c", true, "b", "c"},
		{"inside, from the same key on", "a", "z", "a", "c", true, "a", "c"},
		{"inside, up to the same key", "a", "c", "b", "c", true, "b", "c"},
		{"inside all keys", "", "", "b", "c", true, "b", "c"},
		{"all keys twice", "", "", "", "", true, "", ""},
		{"two without an end", "a", "", "b", "", true, "b", ""},
		{"one without an end", "a", "", "b", "c", true, "b", "c"},
		{"one without an end, begun inside", "b", "", "a", "c", true, "b", "c"},
		{"two without a beginning", "", "b", "", "c", true, "", "b"},
		{"one key alone", "a", "b\x00", "b", "c", true, "b", "b\x00"},
		{"of MaxKey", longA, "", "", longZ, true, longA, longZ},
		{"a range with no key in it", "", "\x00", "", "", true, "", "\x00"},
		{"that touch", "a", "b", "b", "c", false, "", ""},
		{"that touch, without an end", "a", "b", "b", "", false, "", ""},
		{"that touch at the least key", "", "\x00", "\x00", "", false, "", ""},
		{"that lie apart", "a", "b", "c", "d", false, "", ""},
		{"that lie just apart", "a", "b", "b\x00", "d", false, "", ""},
		{"apart, one without an end", "a", "b", "c", "", false, "", ""},
		{"one's To is its From", "b", "b", "a", "c", false, "", ""},
		{"one's To is less", "c", "b", "", "", false, "", ""},
		{"one's From is too long", overA, "", "", "", false, "", ""},
		{"one's From is too long, and counts for nothing", overA, "", "b", "c", false, "", ""},
		{"one's To is too long", "a", overZ, "a", "c", false, "", ""},
		{"neither may be", "b", "a", "b", "a", false, "", ""},
	} {
		for _, round := range []bool{false, true} { // both ways round it's the same
			a, b := rng(x.from, x.to), rng(x.next, x.end)
			if round {
				a, b = b, a
			}
			got, ok := key.Meet(a, b)
			if ok != x.want || !same(got, rng(x.low, x.high)) {
				t.Errorf("%s: Meet(%q, %q): %q, %v", x.name, a, b, got, ok)
			}
		}
	}
	if got, ok := key.Meet(api.Range{}, api.Range{}); !ok || !zero(got) {
		t.Errorf("Meet of zero ranges: %q, %v", got, ok)
	}
}

func TestMeetIsWhatIsInBoth(t *testing.T) { // P5.2
	l := sounds()
	for _, a := range l {
		for _, b := range l {
			got, ok := key.Meet(a, b)
			if ok && !key.Sound(got) || !ok && !zero(got) {
				t.Fatalf("Meet(%q, %q): %q, %v", a, b, got, ok)
			}
			for _, k := range words() {
				both := lies(string(a.From), string(a.To), k) && lies(string(b.From), string(b.To), k)
				if is := ok && lies(string(got.From), string(got.To), k); is != both {
					t.Fatalf("Meet(%q, %q): %q, %v; of %q", a, b, got, ok, k)
				}
			}
		}
	}
}

func TestTiles(t *testing.T) { // P5.3
	for _, x := range []struct {
		name string
		l    []api.Range
		want bool
	}{
		{"none", nil, false},
		{"none, but room for some", make([]api.Range, 0, 4), false},
		{"one", rngs("", ""), true},
		{"one, zero", []api.Range{{}}, true},
		{"one with a beginning", rngs("a", ""), false},
		{"one with an end", rngs("", "z"), false},
		{"one with both", rngs("a", "z"), false},
		{"one that may not be", rngs(overA, ""), false},
		{"two", rngs("", "m", "m", ""), true},
		{"three", rngs("", "b", "b", "m", "m", ""), true},
		{"the least key ends the first one", rngs("", "\x00", "\x00", ""), true},
		{"at one of MaxKey", rngs("", longA, longA, ""), true},
		{"at keys that others begin with", rngs("", "a", "a", "a\x00", "a\x00", "aa", "aa", ""), true},
		{"a gap", rngs("", "b", "c", ""), false},
		{"a gap of one key", rngs("", "b", "b\x00", ""), false},
		{"a gap at the end", rngs("", "b", "b", "c", "d", ""), false},
		{"an overlap", rngs("", "c", "b", ""), false},
		{"an overlap in the middle", rngs("", "b", "b", "d", "c", ""), false},
		{"a first one with a beginning", rngs("a", "b", "b", ""), false},
		{"a last one with an end", rngs("", "b", "b", "c"), false},
		{"an empty end in the middle", rngs("", "b", "b", "", "", ""), false},
		{"an empty end, then a key", rngs("", "", "b", ""), false},
		{"all keys twice", rngs("", "", "", ""), false},
		{"all keys, three times", rngs("", "", "", "", "", ""), false},
		{"an empty end, then all anew", rngs("", "", "", "b", "b", ""), false},
		{"an empty beginning in the middle", rngs("", "b", "", ""), false},
		{"one twice", rngs("", "b", "", "b", "b", ""), false},
		{"one of no key in the middle", rngs("", "b", "b", "b", "b", ""), false},
		{"one that falls in the middle", rngs("", "c", "c", "b", "b", ""), false},
		{"in another order", rngs("m", "", "", "m"), false},
		{"inner ones in another order", rngs("", "b", "c", "d", "b", "c", "d", ""), false},
		{"at one of more than MaxKey", rngs("", overA, overA, ""), false},
		{"the last may not be", rngs("", "b", "b", "a"), false},
		{"without the first one", rngs("b", "m", "m", ""), false},
		{"without the last one", rngs("", "b", "b", "m"), false},
		{"zero ones", make([]api.Range, 3), false},
	} {
		if got := key.Tiles(x.l); got != x.want {
			t.Errorf("%s: Tiles(%q): %v", x.name, x.l, got)
		}
	}
}

// tiling is ranges that tile, cut at these keys, rising.
func tiling(cuts []string) []api.Range {
	from := ""
	var l []api.Range
	for _, k := range cuts {
		l = append(l, rng(from, k))
		from = k
	}
	return append(l, rng(from, ""))
}

// someCuts is some of the words that may be keys, rising.
func someCuts(draw func(int) int) []string {
	var cuts []string
	for _, w := range words() {
		if len(w) >= 1 && len(w) <= 16 && draw(3) == 0 {
			cuts = append(cuts, w)
		}
	}
	slices.SortFunc(cuts, order)
	return cuts
}

func TestEachKeyIsInJustOneTile(t *testing.T) { // P5.3, P5.5
	draw := draws()
	for range 200 {
		l := tiling(someCuts(draw))
		if !key.Tiles(l) {
			t.Fatalf("Tiles(%q): false", l)
		}
		for _, k := range words() {
			n := 0
			for _, r := range l {
				if key.In(r, []byte(k)) {
					n++
				}
			}
			if n != 1 {
				t.Fatalf("%q is in %d of %q", k, n, l)
			}
		}
	}
}

func TestTilesWithOneEndChanged(t *testing.T) { // P5.3
	draw := draws()
	for range 200 {
		l := tiling(someCuts(draw))
		i, w := draw(len(l)), []byte(words()[draw(len(words()))])
		was := l[i]
		if draw(2) == 0 {
			l[i].From = w
		} else {
			l[i].To = w
		}
		if got, want := key.Tiles(l), same(was, l[i]); got != want {
			t.Fatalf("Tiles(%q): %v", l, got)
		}
		l[i] = was
		if gone := slices.Delete(slices.Clone(l), i, i+1); key.Tiles(gone) {
			t.Fatalf("Tiles without %q: %q", was, gone)
		}
		if twice := slices.Insert(slices.Clone(l), i, was); key.Tiles(twice) {
			t.Fatalf("Tiles with %q twice: %q", was, twice)
		}
	}
}

func TestManyTiles(t *testing.T) { // P5.3, P1
	var cuts []string
	for n := 1; n < 1<<16; n++ {
		cuts = append(cuts, string([]byte{byte(n >> 8), byte(n)}))
	}
	l := tiling(cuts)
	if !key.Tiles(l) {
		t.Fatal("65536 ranges don't tile")
	}
	l[40000].To = append(l[40000].To, 0)
	if key.Tiles(l) {
		t.Error("one of 65536 overlaps, and they tile")
	}
}

func TestWhatIsCutIsJoinedAgain(t *testing.T) { // P5.5
	cuts := 0
	for _, r := range sounds() {
		for _, w := range words() {
			low, high, err := key.Cut(r, []byte(w))
			if err != nil {
				continue
			}
			cuts++
			if !key.Sound(low) || !key.Sound(high) {
				t.Fatalf("Cut(%q, %q): %q, %q may not be", r, w, low, high)
			}
			if got, err := key.Join(low, high); err != nil || !same(got, r) {
				t.Fatalf("Cut(%q, %q), joined: %q, %v", r, w, got, err)
			}
			if _, ok := key.Meet(low, high); ok {
				t.Fatalf("Cut(%q, %q): both halves meet", r, w)
			}
			for _, k := range words() {
				inLow, inHigh := key.In(low, []byte(k)), key.In(high, []byte(k))
				if inLow && inHigh || (inLow || inHigh) != key.In(r, []byte(k)) {
					t.Fatalf("Cut(%q, %q): %q is in %v, %v", r, w, k, inLow, inHigh)
				}
			}
		}
	}
	if cuts < 1000 {
		t.Errorf("only %d cuts", cuts)
	}
}

func TestWhatIsJoinedIsCutAgain(t *testing.T) { // P5.5
	for _, a := range sounds() {
		for _, b := range sounds() {
			r, err := key.Join(a, b)
			if err != nil {
				continue
			}
			if !key.Sound(r) {
				t.Fatalf("Join(%q, %q): %q may not be", a, b, r)
			}
			low, high, err := key.Cut(r, b.From)
			if err != nil || !same(low, a) || !same(high, b) {
				t.Fatalf("Join(%q, %q), cut: %q, %q, %v", a, b, low, high, err)
			}
		}
	}
}

func TestTilesAreCutAndJoined(t *testing.T) { // P5.5
	l := rngs("", "")
	for _, w := range words() {
		for i := 0; i < len(l); i++ {
			if low, high, err := key.Cut(l[i], []byte(w)); err == nil {
				l = slices.Replace(l, i, i+1, low, high)
				break
			}
		}
		if !key.Tiles(l) {
			t.Fatalf("cut at %q they don't tile: %q", w, l)
		}
	}
	for len(l) > 1 {
		r, err := key.Join(l[0], l[1])
		if err != nil {
			t.Fatal(err)
		}
		if l = slices.Replace(l, 0, 2, r); !key.Tiles(l) {
			t.Fatalf("joined they don't tile: %q", l)
		}
	}
	if !same(l[0], rng("", "")) {
		t.Errorf("at the end: %q", l)
	}
}

// roomy is a text's bytes with room behind them, where a careless append
// would write.
func roomy(s string) []byte {
	return append(bytes.Repeat([]byte{'#'}, 40)[:0], s...)
}

func roomyRange(from, to string) api.Range {
	return api.Range{From: roomy(from), To: roomy(to)}
}

// untouched tells whether these bytes, and the room behind, are as roomy made
// them.
func untouched(b []byte, s string) bool {
	return string(b) == s && string(b[:cap(b)]) == string(roomy(s)[:40])
}

func untouchedRange(r api.Range, from, to string) bool {
	return untouched(r.From, from) && untouched(r.To, to)
}

// scribble writes over all that these bytes may reach.
func scribble(lists ...[]byte) {
	for _, b := range lists {
		b = b[:cap(b)]
		for i := range b {
			b[i] = '!'
		}
	}
}

func TestWhatIsHandedInStays(t *testing.T) { // P5.4
	for _, from := range words() {
		for _, to := range words() {
			r, q, k := roomyRange(from, to), roomyRange(to, "zz"), roomy(to+"a")
			l := []api.Range{r, q}
			key.May(k)
			key.Fair(k)
			key.Compare(r.From, r.To)
			key.Sound(r)
			key.In(r, k)
			key.Cut(r, k)
			key.Join(r, q)
			key.Meet(r, q)
			key.Tiles(l)
			if !untouchedRange(r, from, to) || !untouchedRange(q, to, "zz") || !untouched(k, to+"a") {
				t.Fatalf("changed: %q, %q, %q", r, q, k)
			}
			if !same(l[0], r) || !same(l[1], q) {
				t.Fatalf("the list was changed: %q", l)
			}
		}
	}
}

func TestWhatIsCutIsNew(t *testing.T) { // P5.4, R2
	r, k := roomyRange("b", "d"), roomy("c")
	low, high, err := key.Cut(r, k)
	if err != nil {
		t.Fatal(err)
	}
	scribble(r.From, r.To, k)
	if !same(low, rng("b", "c")) || !same(high, rng("c", "d")) {
		t.Errorf("what was told follows what was handed in: %q, %q", low, high)
	}
	r, k = roomyRange("b", "d"), roomy("c")
	low, high, _ = key.Cut(r, k)
	scribble(low.From, low.To)
	if !same(high, rng("c", "d")) {
		t.Errorf("one half follows the other: %q", high)
	}
	scribble(high.From, high.To)
	if !untouchedRange(r, "b", "d") || !untouched(k, "c") {
		t.Errorf("what was handed in follows what was told: %q, %q", r, k)
	}
	if low, high, _ = key.Cut(r, k); !same(low, rng("b", "c")) || !same(high, rng("c", "d")) {
		t.Errorf("what was told before is kept: %q, %q", low, high)
	}
}

func TestWhatIsCutOfOneMemoryIsNew(t *testing.T) { // P5.4, R2
	b := []byte("bcd") // all that is handed in is of one memory
	low, high, err := key.Cut(api.Range{From: b[:1], To: b[2:]}, b[1:2])
	scribble(low.From, high.To)
	if err != nil || string(b) != "bcd" || string(low.To) != "c" || string(high.From) != "c" {
		t.Errorf("%q: %q, %q, %v", b, low, high, err)
	}
}

// pairUp tells Join or Meet of two ranges, if there is an answer.
type pairUp func(a, b api.Range) (api.Range, bool)

func join(a, b api.Range) (api.Range, bool) {
	r, err := key.Join(a, b)
	return r, err == nil
}

// staysNew holds the answer of two ranges to be new memory.
func staysNew(t *testing.T, f pairUp, a, b, want [2]string) {
	t.Helper()
	p, q := roomyRange(a[0], a[1]), roomyRange(b[0], b[1])
	got, ok := f(p, q)
	scribble(p.From, p.To, q.From, q.To)
	if !ok || !same(got, rng(want[0], want[1])) {
		t.Errorf("%q, %q: %q, %v follows what was handed in", a, b, got, ok)
	}
	p, q = roomyRange(a[0], a[1]), roomyRange(b[0], b[1])
	got, _ = f(p, q)
	scribble(got.From)
	if string(got.To) != want[1] {
		t.Errorf("%q, %q: one end follows the other: %q", a, b, got.To)
	}
	scribble(got.To)
	if !untouchedRange(p, a[0], a[1]) || !untouchedRange(q, b[0], b[1]) {
		t.Errorf("what was handed in follows what was told: %q, %q", p, q)
	}
}

func TestWhatIsJoinedOrMetIsNew(t *testing.T) { // P5.4, R2
	staysNew(t, join, [2]string{"b", "c"}, [2]string{"c", "d"}, [2]string{"b", "d"})
	staysNew(t, join, [2]string{"", "c"}, [2]string{"c", ""}, [2]string{"", ""})
	staysNew(t, key.Meet, [2]string{"a", "c"}, [2]string{"b", "d"}, [2]string{"b", "c"})
	staysNew(t, key.Meet, [2]string{"b", "c"}, [2]string{"a", "d"}, [2]string{"b", "c"})
	staysNew(t, key.Meet, [2]string{"a", "d"}, [2]string{"b", "c"}, [2]string{"b", "c"})
	staysNew(t, key.Meet, [2]string{"b", ""}, [2]string{"", "c"}, [2]string{"b", "c"})
	staysNew(t, key.Meet, [2]string{"b", ""}, [2]string{"", ""}, [2]string{"b", ""})
}

func TestMeetOfItselfIsNew(t *testing.T) { // P5.4, R2
	r := roomyRange("b", "d")
	got, ok := key.Meet(r, r)
	scribble(got.From, got.To)
	if !ok || !untouchedRange(r, "b", "d") {
		t.Errorf("what was handed in follows what was told: %q", r)
	}
}

func TestErrorsAreThemselves(t *testing.T) { // the chapter's line Errors
	_, _, cut := key.Cut(rng("d", "b"), []byte("c"))
	_, _, at := key.Cut(rng("b", "d"), []byte("b"))
	_, joined := key.Join(rng("d", "b"), rng("b", "c"))
	_, gap := key.Join(rng("a", "b"), rng("c", "d"))
	for i, err := range []error{cut, at, joined, gap} {
		want := []api.Code{api.ErrArg, api.ErrRange}[i%2]
		if c, is := err.(api.Code); !is || c != want {
			t.Errorf("%d: %#v, not %v", i, err, want)
		}
	}
}

func TestAllArguments(t *testing.T) { // P1, R3
	huge := strings.Repeat("h", 1<<16)
	ends := [][]byte{nil, {}, []byte("a"), []byte("b"), {0}, {0xff}, []byte(longA), []byte(overA), []byte(huge)}
	var l []api.Range
	for _, from := range ends {
		for _, to := range ends {
			l = append(l, api.Range{From: from, To: to})
		}
	}
	for _, a := range l {
		for _, k := range ends {
			if low, high, err := key.Cut(a, k); err != nil && !(zero(low) && zero(high)) {
				t.Errorf("Cut: %v, beside %q, %q", err, low, high)
			}
			key.In(a, k)
		}
		for _, b := range l {
			if r, err := key.Join(a, b); err != nil && !zero(r) {
				t.Errorf("Join: %v, beside %q", err, r)
			}
			if r, ok := key.Meet(a, b); !ok && !zero(r) {
				t.Errorf("Meet: %v, beside %q", ok, r)
			}
			key.Tiles([]api.Range{a, b})
		}
	}
	if key.Tiles(l) {
		t.Error("all of them tile")
	}
}
