package cursor_test

import (
	"bytes"
	"fmt"
	"math"
	"runtime/debug"
	"slices"
	"strings"
	"testing"

	"garnet/api"
	"garnet/arena"
	"garnet/cursor"
	"garnet/prune"
	"garnet/tree"
)

// TestMain lets more memory be used ahead of each collection: what is told
// here is small and much, and most of the time would go into collecting it.
func TestMain(m *testing.M) {
	debug.SetGCPercent(800)
	m.Run()
}

// Keys of MaxKey bytes and of one more, a value of MaxVal bytes.
const (
	longA = "aaaaaaaaaaaaaaaa"
	longZ = "zzzzzzzzzzzzzzzz"
	overA = longA + "a"
	overZ = longZ + "z"
	fullV = "vvvvvvvvvvvvvvvvvvvvvvvvvvvvvvvv"
)

// order is chapter 5's, byte by byte.
func order(a, b string) int {
	for i := 0; i < len(a) && i < len(b); i++ {
		if a[i] < b[i] {
			return -1
		}
		if a[i] > b[i] {
			return 1
		}
	}
	return min(1, max(-1, len(a)-len(b)))
}

// lies is chapter 5's word of a key in a range.
func lies(from, to, k string) bool {
	return order(k, from) >= 0 && (to == "" || order(to, k) > 0)
}

// sound is chapter 5's word of a range that may be.
func sound(from, to string) bool {
	return len(from) <= 16 && len(to) <= 16 && (to == "" || order(to, from) > 0)
}

// draws is numbers that look like chance and are the same in each run.
func draws(seed int) func(k int) int {
	at := uint64(seed)
	return func(k int) int {
		at = at*6364136223846793005 + 1442695040888963407
		return int(at>>33) % k
	}
}

// all is every order that there may be.
func all() []int {
	var l []int
	for m := 3; m <= 16; m++ {
		l = append(l, m)
	}
	return l
}

// number is a key that rises with a number.
func number(i int) string { return fmt.Sprintf("%05d", i) }

// rising is so many keys, ten apart, so that others are between them.
func rising(many int) []string {
	var l []string
	for i := range many {
		l = append(l, number(10*i+10))
	}
	return l
}

// words is many keys, rising, by turns ones that others begin with and ones
// of no text: the least and the greatest byte, and those of MaxKey bytes.
func words(many int) []string {
	var l []string
	for i := 0; len(l) < many; i++ {
		k := []byte{"\x00\x01B\x7f\x80\xfe\xff"[i%7]}
		for rest := i / 7; rest > 0; rest /= 3 {
			k = append(k, "\x00m\xff"[rest%3])
		}
		if i%11 == 0 {
			k = append(k, bytes.Repeat(k[:1], 16-len(k))...)
		}
		l = append(l, string(k))
	}
	slices.SortFunc(l, order)
	return slices.Compact(l)
}

// shuffled is these in an order like by chance.
func shuffled(keys []string) []string {
	draw, l := draws(1), slices.Clone(keys)
	for i := range l {
		j := i + draw(len(l)-i)
		l[i], l[j] = l[j], l[i]
	}
	return l
}

// pair is one of a plain list.
type pair struct{ key, val string }

// subject is a tree, and the plain list of its pairs.
type subject struct {
	tr   *tree.Tree
	list []pair
}

func empty(t *testing.T, m int) *subject {
	t.Helper()
	tr, err := tree.New(m)
	if err != nil {
		t.Fatal(err)
	}
	return &subject{tr: tr}
}

func (s *subject) find(k string) (int, bool) {
	return slices.BinarySearchFunc(s.list, k, func(p pair, k string) int { return order(p.key, k) })
}

func (s *subject) put(t *testing.T, k, v string) {
	t.Helper()
	if _, err := s.tr.Put([]byte(k), []byte(v)); err != nil {
		t.Fatalf("Put(%q): %v", k, err)
	}
	at, is := s.find(k)
	if !is {
		s.list = slices.Insert(s.list, at, pair{})
	}
	s.list[at] = pair{k, v}
}

func (s *subject) drop(t *testing.T, k string) {
	t.Helper()
	at, is := s.find(k)
	if was, err := prune.Delete(s.tr, []byte(k)); was != is || err != nil {
		t.Fatalf("Delete(%q): %v, %v", k, was, err)
	}
	if is {
		s.list = slices.Delete(s.list, at, at+1)
	}
}

func (s *subject) puts(t *testing.T, keys ...string) {
	t.Helper()
	for i, k := range keys {
		s.put(t, k, []string{"v" + k, "", "\x00", fullV}[i%4])
	}
}

// filled is a tree that was only put into.
func filled(t *testing.T, m int, keys []string) *subject {
	t.Helper()
	s := empty(t, m)
	s.puts(t, shuffled(keys)...)
	return s
}

// thinned is a tree of these keys, into which others were put, too, that were
// deleted then: between each two of these one, and a run in the middle.
func thinned(t *testing.T, m int, keys []string) *subject {
	t.Helper()
	s, gone := empty(t, m), []string{"~", "\x00"}
	for i, k := range keys {
		if len(k) < 16 && i < 400 {
			gone = append(gone, k+"5")
		}
	}
	for i := range 5 * m {
		gone = append(gone, number(5*len(keys))+number(i))
	}
	gone = slices.DeleteFunc(gone, func(k string) bool { return slices.Contains(keys, k) })
	keys = shuffled(keys)
	half := min(len(keys), api.MaxPairs-len(gone))
	s.puts(t, shuffled(slices.Concat(keys[:half], gone))...)
	for _, k := range shuffled(gone) {
		s.drop(t, k)
	}
	s.puts(t, keys[half:]...)
	return s
}

// both is a tree that was only put into, and one that was deleted from.
func both(t *testing.T, m int, keys []string) []*subject {
	t.Helper()
	l := []*subject{filled(t, m, keys), thinned(t, m, keys)}
	for _, s := range l {
		if len(s.list) != len(keys) || s.tr.Many != len(keys) {
			t.Fatalf("%d pairs, Many %d, of %d keys", len(s.list), s.tr.Many, len(keys))
		}
	}
	return l
}

// in is the plain list's pairs in a range.
func (s *subject) in(from, to string) []pair {
	var l []pair
	for _, p := range s.list {
		if lies(from, to, p.key) {
			l = append(l, p)
		}
	}
	return l
}

func (s *subject) keys() []string {
	var l []string
	for _, p := range s.list {
		l = append(l, p.key)
	}
	return l
}

// leaves is each leaf's keys, from left to right, and seams is the keys of
// all other nodes, by a walk from the root.
func (s *subject) nodes(t *testing.T) (leaves [][]string, seams []string) {
	t.Helper()
	var walk func(i int)
	walk = func(i int) {
		n, is := s.tr.A.Get(i)
		if !is {
			t.Fatalf("there is no node %d", i)
		}
		if n.Leaf {
			var keys []string
			for _, p := range n.Pairs {
				keys = append(keys, string(p.Key))
			}
			leaves = append(leaves, keys)
			return
		}
		for _, k := range n.Keys {
			seams = append(seams, string(k))
		}
		for _, kid := range n.Kids {
			walk(kid)
		}
	}
	walk(s.tr.Root)
	return leaves, seams
}

// shape is what a walk over all nodes of a tree comes to.
type shape struct {
	tr     *tree.Tree
	leaves []int
	nexts  []int
	deep   int
	seen   int
	pairs  int
	fault  string
}

// wrong tells the first thing that is wrong.
func (s *shape) wrong(form string, args ...any) {
	if s.fault == "" {
		s.fault = fmt.Sprintf(form, args...)
	}
}

// isSound holds a tree against chapter 8's list, point by point.
func isSound(t *testing.T, tr *tree.Tree) {
	t.Helper()
	s := &shape{tr: tr}
	s.walk(tr.Root, "", "", 1)
	for i, next := range s.nexts {
		if want := append(s.leaves, -1)[i+1]; next != want {
			s.wrong("behind leaf %d comes %d, not %d", s.leaves[i], next, want)
		}
	}
	if tr.A.Used() != s.seen || tr.Many != s.pairs || tr.Height() != s.deep {
		s.wrong("used %d, many %d, height %d: not %d, %d, %d", tr.A.Used(), tr.Many, tr.Height(), s.seen, s.pairs, s.deep)
	}
	if s.fault != "" {
		t.Fatalf("%s\n%s", s.fault, text(tr))
	}
}

func (s *shape) walk(i int, from, to string, depth int) {
	n, is := s.tr.A.Get(i)
	if s.seen++; !is || s.seen > s.tr.A.Len() || s.fault != "" {
		s.wrong("node %d: %v, the %d.", i, is, s.seen)
		return
	}
	keys := slices.Clone(n.Keys)
	for _, p := range n.Pairs {
		keys = append(keys, p.Key)
	}
	for at, k := range keys {
		if len(k) < 1 || len(k) > 16 || !lies(from, to, string(k)) || at > 0 && order(string(keys[at-1]), string(k)) != -1 {
			s.wrong("node %d, from %q to %q: keys %q", i, from, to, keys)
		}
	}
	if len(keys) > s.tr.Order || i != s.tr.Root && len(keys) < s.tr.Order/2 {
		s.wrong("node %d has %d keys", i, len(keys))
	}
	if n.Leaf {
		if s.deep == 0 {
			s.deep = depth
		}
		if depth != s.deep || len(n.Keys)+len(n.Kids) > 0 {
			s.wrong("leaf %d, at depth %d, not %d: %v", i, depth, s.deep, n)
		}
		s.leaves, s.nexts, s.pairs = append(s.leaves, i), append(s.nexts, n.Next), s.pairs+len(n.Pairs)
		return
	}
	if len(n.Keys) < 1 || len(n.Kids) != len(n.Keys)+1 || len(n.Pairs) > 0 {
		s.wrong("node %d: %v", i, n)
		return
	}
	for at, kid := range n.Kids {
		low, high := from, to
		if at > 0 {
			low = string(n.Keys[at-1])
		}
		if at < len(n.Keys) {
			high = string(n.Keys[at])
		}
		s.walk(kid, low, high, depth+1)
	}
}

// text tells all of a tree, node by node.
func text(tr *tree.Tree) string {
	var b strings.Builder
	fmt.Fprintf(&b, "root %d, order %d, many %d, used %d", tr.Root, tr.Order, tr.Many, tr.A.Used())
	for i := range tr.A.Len() {
		n, is := tr.A.Get(i)
		fmt.Fprintf(&b, "\n%d: %v %v %q %q %v %d", i, is, n.Leaf, n.Pairs, n.Keys, n.Kids, n.Next)
	}
	return b.String()
}

// stays holds a tree to be sound, and as it was, behind calls.
func stays(t *testing.T, s *subject, calls func()) {
	t.Helper()
	was, a := text(s.tr), s.tr.A
	calls()
	if is := text(s.tr); is != was || s.tr.A != a {
		t.Fatalf("the tree was changed:\n%s\n%s", was, is)
	}
	isSound(t, s.tr)
}

// roomy is a text's bytes with room behind them, where a careless append
// would write.
func roomy(s string) []byte { return append(bytes.Repeat([]byte{'#'}, len(s)+8)[:0], s...) }

func untouched(b []byte, s string) bool {
	return string(b) == s && string(b[:len(s)+8]) == string(roomy(s)[:len(s)+8])
}

// scribble writes over all that these bytes may reach.
func scribble(lists ...[]byte) {
	for _, b := range lists {
		b = b[:cap(b)]
		for i := range b {
			b[i] = '!'
		}
	}
}

// handed is a range that is handed in, and what it is to stay.
type handed struct {
	r        api.Range
	from, to string
}

func hand(from, to string) handed {
	return handed{api.Range{From: roomy(from), To: roomy(to)}, from, to}
}

func (h handed) stays(t *testing.T, call string) {
	t.Helper()
	if !untouched(h.r.From, h.from) || !untouched(h.r.To, h.to) {
		t.Fatalf("%s of %.40q to %.40q changed them: %.40q", call, h.from, h.to, h.r)
	}
}

// opened is a cursor of a range that is written over then: P10.3.
func opened(t *testing.T, s *subject, from, to string) *cursor.Cursor {
	t.Helper()
	h := hand(from, to)
	c, err := cursor.Open(s.tr, h.r)
	if c == nil || err != nil {
		t.Fatalf("Open(%q to %q): %v, %v", from, to, c, err)
	}
	h.stays(t, "Open")
	scribble(h.r.From, h.r.To)
	return c
}

// next holds what a cursor tells to be this pair.
func next(t *testing.T, c *cursor.Cursor, want pair) api.Pair {
	t.Helper()
	p, is := c.Next()
	if !is || string(p.Key) != want.key || string(p.Val) != want.val {
		t.Fatalf("Next: %q, %v, not %q", p, is, want)
	}
	return p
}

// over holds a cursor to have none left, asked once more and again.
func over(t *testing.T, c *cursor.Cursor) {
	t.Helper()
	for range 3 {
		if p, is := c.Next(); is || p.Key != nil || p.Val != nil {
			t.Fatalf("Next of none: %q, %v", p, is)
		}
	}
}

// goes holds a cursor against the plain list. What it told is written over, or
// kept till all is told, and is then as it was told.
func goes(t *testing.T, s *subject, from, to string) {
	t.Helper()
	want := s.in(from, to)
	c := opened(t, s, from, to)
	for _, p := range want {
		told := next(t, c, p)
		scribble(told.Key, told.Val)
	}
	over(t, c)
	c = opened(t, s, from, to)
	var told []api.Pair
	for _, p := range want {
		told = append(told, next(t, c, p))
	}
	over(t, c)
	are(t, told, want)
}

// are holds pairs against a plain list. Each is written over once it was held,
// so that the ones behind it show whether they share its memory.
func are(t *testing.T, l []api.Pair, want []pair) {
	t.Helper()
	if len(l) != len(want) {
		t.Fatalf("%d pairs, not %d: %q, not %q", len(l), len(want), l, want)
	}
	for i, p := range l {
		if string(p.Key) != want[i].key {
			t.Fatalf("pair %d: %q, not %q", i, p, want[i])
		}
		scribble(p.Key)
		if string(p.Val) != want[i].val {
			t.Fatalf("pair %d: %q, not %q", i, p, want[i])
		}
		scribble(p.Val)
	}
	clear(l[:cap(l)])
}

// ranges holds Range and Count against the plain list, with these limits.
func ranges(t *testing.T, s *subject, from, to string, limits ...int) {
	t.Helper()
	want := s.in(from, to)
	for _, limit := range limits {
		h := hand(from, to)
		l, err := cursor.Range(s.tr, h.r, limit)
		if err != nil {
			t.Fatalf("Range(%q to %q, %d): %v", from, to, limit, err)
		}
		are(t, l, want[:max(0, min(limit, len(want)))])
		h.stays(t, "Range")
		scribble(h.r.From, h.r.To)
	}
	h := hand(from, to)
	if n, err := cursor.Count(s.tr, h.r); n != len(want) || err != nil {
		t.Fatalf("Count(%q to %q): %d, %v, not %d", from, to, n, err, len(want))
	}
	h.stays(t, "Count")
}

// limits is those about a number of pairs, and about all numbers.
func limits(many int) []int {
	return []int{math.MinInt, -1000, -1, 0, 1, 2, many - 1, many, many + 1, many + 1000, math.MaxInt - 1, math.MaxInt}
}

// tells holds all calls of a range against the plain list.
func tells(t *testing.T, s *subject, from, to string) {
	t.Helper()
	goes(t, s, from, to)
	ranges(t, s, from, to, limits(len(s.in(from, to)))...)
	goes(t, s, from, to)
}

// tellsNot holds all calls of a range to tell ErrArg, by ==, for it is to be
// the Code itself.
func tellsNot(t *testing.T, tr *tree.Tree, from, to string) {
	t.Helper()
	h := hand(from, to)
	if c, err := cursor.Open(tr, h.r); c != nil || err != api.ErrArg {
		t.Fatalf("Open(%.40q to %.40q): %v, %v", from, to, c, err)
	}
	for _, limit := range limits(1) {
		if l, err := cursor.Range(tr, h.r, limit); l != nil || err != api.ErrArg {
			t.Fatalf("Range(%.40q to %.40q, %d): %q, %v", from, to, limit, l, err)
		}
	}
	if n, err := cursor.Count(tr, h.r); n != 0 || err != api.ErrArg {
		t.Fatalf("Count(%.40q to %.40q): %d, %v", from, to, n, err)
	}
	h.stays(t, "a call")
}

// asks holds all calls against the plain list, or to tell ErrArg.
func asks(t *testing.T, s *subject, from, to string) {
	t.Helper()
	if sound(from, to) {
		tells(t, s, from, to)
	} else {
		tellsNot(t, s.tr, from, to)
	}
}

// middle holds Middle against the plain list.
func middle(t *testing.T, s *subject) {
	t.Helper()
	for range 2 {
		k, is := cursor.Middle(s.tr)
		if n := len(s.list); n < 2 {
			if is || k != nil {
				t.Fatalf("Middle of %d: %q, %v", n, k, is)
			}
		} else if !is || string(k) != s.list[n/2].key {
			t.Fatalf("Middle of %d: %q, %v, not %q", n, k, is, s.list[n/2].key)
		}
		scribble(k)
	}
}

// ends is where ranges may begin, or end: at keys, just ahead of them, just
// behind, between, and outside of all.
func ends(keys []string) []string {
	l := []string{"", "\x00", "~", longA, longZ, strings.Repeat("\x00", 16), strings.Repeat("\xff", 16)}
	for _, k := range keys {
		last := len(k) - 1
		for _, e := range []string{k, k + "\x00", k + "5", k[:last] + string([]byte{k[last] - 1, 0xff})} {
			if len(e) <= 16 {
				l = append(l, e)
			}
		}
	}
	slices.SortFunc(l, order)
	return slices.Compact(l)
}

func TestExample(t *testing.T) { // the chapter's: a, b, c; b to c: b
	for _, m := range all() {
		for _, s := range both(t, m, []string{"a", "b", "c"}) {
			l, err := cursor.Range(s.tr, api.Range{From: []byte("b"), To: []byte("c")}, 10)
			if err != nil || len(l) != 1 || string(l[0].Key) != "b" {
				t.Fatalf("order %d: %q, %v", m, l, err)
			}
			stays(t, s, func() { tells(t, s, "b", "c") })
		}
	}
}

func TestOfNoTree(t *testing.T) { // P10.1, P10.2: ErrArg, whatever the range is; Middle none
	l := append(ends([]string{"a", "b"}), overA, overZ)
	for _, from := range l {
		for _, to := range l {
			tellsNot(t, nil, from, to)
			tellsNot(t, &tree.Tree{}, from, to) // one that no call made
		}
	}
	for _, tr := range []*tree.Tree{nil, {}, {Order: 3, Many: 9}} {
		if k, is := cursor.Middle(tr); k != nil || is {
			t.Errorf("Middle of no tree: %q, %v", k, is)
		}
	}
}

func TestErrorsAreThemselves(t *testing.T) { // the chapter's line Errors
	s := filled(t, 3, rising(9))
	for _, h := range []handed{hand("b", "a"), hand("a", "a"), hand(overA, ""), hand("", overZ)} {
		_, open := cursor.Open(s.tr, h.r)
		_, some := cursor.Range(s.tr, h.r, 1)
		_, many := cursor.Count(s.tr, h.r)
		_, none := cursor.Count(nil, h.r)
		for i, err := range []error{open, some, many, none} {
			if c, is := err.(api.Code); !is || c != api.ErrArg {
				t.Errorf("%d: %#v", i, err)
			}
		}
	}
}

func TestRangesThatMayNotBe(t *testing.T) { // P10.1, P10.2: ErrArg
	for _, m := range all() {
		for _, many := range []int{0, 1, m + 1, 60} {
			for _, s := range both(t, m, rising(many)) {
				stays(t, s, func() {
					for _, r := range [][2]string{
						{overA, ""}, {"", overA}, {overA, "b"}, {"", overZ}, {overA, overZ}, // of one byte more than MaxKey
						{overA, overA}, {overZ, overA}, {"a", overA}, {longA, overA},
						{strings.Repeat("k", 1<<12), ""}, {"", strings.Repeat("k", 1<<12)},
						{"a", "a"}, {"\x00", "\x00"}, {number(20), number(20)}, {longA, longA}, {longZ, longZ}, // the same
						{"b", "a"}, {number(30), number(20)}, {"~", "\x00"}, {longZ, longA}, {"a\x00", "a"}, {longA, "a"}, // below
					} {
						tellsNot(t, s.tr, r[0], r[1])
					}
				})
			}
		}
	}
}

func TestRangesThatJustMayBe(t *testing.T) { // P10.1, P10.2: ends of MaxKey bytes
	keys := []string{"a", longA[:15], longA, longA[:15] + "b", "b", longZ[:15], longZ, "zz"}
	for _, m := range all() {
		for _, s := range both(t, m, keys) {
			stays(t, s, func() {
				for _, r := range [][2]string{
					{longA, ""}, {"", longA}, {longA, longZ}, {longA, longA[:15] + "b"}, {longA[:15], longA},
					{longA[:15] + "\x00", longA}, {longZ, longZ[:15] + "{"}, {longZ[:15] + "\xff", ""}, {"", longZ},
					{strings.Repeat("\x00", 16), strings.Repeat("\xff", 16)}, {strings.Repeat("\x00", 15), strings.Repeat("\x00", 16)},
				} {
					if !sound(r[0], r[1]) {
						t.Fatalf("%q may not be", r)
					}
					tells(t, s, r[0], r[1])
				}
			})
		}
	}
}

func TestNoEnds(t *testing.T) { // P10.1, P10.2: empty is none, nil or not
	for _, m := range all() {
		for _, many := range []int{0, 1, 2, m, m + 1, 80, api.MaxPairs} {
			for _, s := range both(t, m, rising(many)) {
				stays(t, s, func() {
					for _, none := range [][]byte{nil, {}} {
						for _, r := range []api.Range{
							{From: none, To: none},
							{From: none, To: []byte(number(5*many + 10))},
							{From: []byte(number(5*many + 10)), To: none},
						} {
							l, err := cursor.Range(s.tr, r, api.MaxPairs)
							if err != nil {
								t.Fatalf("Range(%q): %v", r, err)
							}
							are(t, l, s.in(string(r.From), string(r.To)))
							ranges(t, s, string(r.From), string(r.To), many, many-1)
							goes(t, s, string(r.From), string(r.To))
						}
					}
				})
			}
		}
	}
}

func TestFromEndToEnd(t *testing.T) { // P10.1, P10.2, P10.4: all ranges of few pairs, and of none and one
	for _, m := range all() {
		for _, many := range []int{0, 1, 2, 3, 8} {
			for i, s := range both(t, m, rising(many)) {
				t.Run(fmt.Sprint(m, " ", many, " ", i), func(t *testing.T) {
					t.Parallel()
					stays(t, s, func() {
						for _, from := range ends(s.keys()) {
							for _, to := range ends(s.keys()) {
								asks(t, s, from, to)
							}
						}
					})
				})
			}
		}
	}
}

func TestOfMorePairs(t *testing.T) { // P10.1, P10.2, P10.4: ranges of trees with many leaves
	for _, m := range all() {
		for _, keys := range [][]string{rising(m + 1), rising(12 * m), words(150), rising(api.MaxPairs), words(api.MaxPairs + 60)[:api.MaxPairs]} {
			for i, s := range both(t, m, keys) {
				t.Run(fmt.Sprint(m, " ", len(keys), " ", i), func(t *testing.T) {
					t.Parallel()
					draw := draws(len(keys))
					l := ends(keys)
					stays(t, s, func() {
						for round := range 60 {
							from := draw(len(l))
							asks(t, s, l[from], l[draw(len(l))])
							asks(t, s, l[from], l[min(from+1+round%9, len(l)-1)])
						}
						tells(t, s, "", "")
					})
				})
			}
		}
	}
}

func TestNoKeyInTheRange(t *testing.T) { // P10.1, P10.2: below all, above all, between two
	for _, m := range all() {
		for _, many := range []int{0, 1, 2, m, m + 1, 90} {
			for _, s := range both(t, m, rising(many)) {
				stays(t, s, func() {
					l := [][2]string{{"", number(10)}, {"\x00", number(10)}, {number(1), number(9)}, {"", "\x00"}}
					l = append(l, [2]string{number(10*many) + "\x00", ""}, [2]string{number(10*many + 1), longZ}, [2]string{"~", "~~"})
					for i := range many {
						k := number(10*i + 10)
						l = append(l, [2]string{k + "\x00", number(10*i + 20)}, [2]string{k + "1", k + "2"}, [2]string{number(10*i + 1), k})
					}
					for _, r := range l {
						if len(s.in(r[0], r[1])) > 0 {
							t.Fatalf("there are keys in %q", r)
						}
						tells(t, s, r[0], r[1])
					}
				})
			}
		}
	}
}

func TestJustOneKey(t *testing.T) { // P10.1, P10.2
	for _, m := range all() {
		for _, many := range []int{1, 2, m, m + 1, 90} {
			for _, s := range both(t, m, rising(many)) {
				stays(t, s, func() {
					for i, k := range s.keys() {
						for _, r := range [][2]string{{k, k + "\x00"}, {k, number(10*i + 20)}, {number(10*i + 5), number(10*i + 15)}, {number(10*i) + "\x00", k + "9"}} {
							if len(s.in(r[0], r[1])) != 1 {
								t.Fatalf("%q: not just one", r)
							}
							tells(t, s, r[0], r[1])
						}
					}
				})
			}
		}
	}
}

func TestFromLeafToLeaf(t *testing.T) { // P10.1, P10.2, P10.4: ranges that begin and end at leaves' first and last keys
	for _, m := range all() {
		for i, s := range both(t, m, rising(120)) {
			t.Run(fmt.Sprint(m, " ", i), func(t *testing.T) {
				t.Parallel()
				leaves, _ := s.nodes(t)
				if len(leaves) < 6 {
					t.Fatalf("%d leaves", len(leaves))
				}
				var l []string
				for _, keys := range leaves {
					first, last := keys[0], keys[len(keys)-1]
					l = append(l, first, first+"\x00", last, last+"\x00") // behind the last one is in the leaf still, by its node's key
				}
				slices.SortFunc(l, order)
				l = slices.Compact(l) // of a leaf of one pair the first one is the last one
				stays(t, s, func() {
					for at, from := range l {
						for _, far := range []int{1, 2, 3, 4, 5, 8, 12, 40} {
							tells(t, s, from, append(l, "")[min(at+far, len(l))])
						}
						ranges(t, s, from, "", limits(m)...)
						tells(t, s, "", from)
					}
				})
			})
		}
	}
}

func TestFromKeysOfOtherNodes(t *testing.T) { // P10.1, P10.2: those that are pairs' too, and those that are no pair's any more
	there, gone := 0, 0
	for _, m := range all() {
		for _, s := range both(t, m, rising(150)) {
			_, seams := s.nodes(t)
			if len(seams) == 0 {
				t.Fatalf("order %d: no node but leaves", m)
			}
			for _, k := range seams[:len(seams)/2] { // of these keys the pairs go, and the nodes' keys may stay
				if _, is := s.find(k); is {
					s.drop(t, k)
				}
			}
			_, seams = s.nodes(t)
			stays(t, s, func() {
				for i, k := range seams {
					if _, is := s.find(k); is {
						there++
					} else {
						gone++
					}
					tells(t, s, k, "")
					tells(t, s, "", k)
					asks(t, s, k, seams[(i+1)%len(seams)])
					tells(t, s, k, k+"\x00")
					tells(t, s, k+"\x00", k+"~")
				}
			})
		}
	}
	if there == 0 || gone == 0 {
		t.Fatalf("%d keys of nodes are pairs', %d aren't", there, gone)
	}
}

func TestAllOfGreatTrees(t *testing.T) { // P10.4: MaxPairs, each once, rising
	for _, m := range all() {
		for i, s := range both(t, m, rising(api.MaxPairs)) {
			t.Run(fmt.Sprint(m, " ", i), func(t *testing.T) {
				t.Parallel()
				if _, err := s.tr.Put([]byte("more"), nil); err != api.ErrFull {
					t.Fatalf("not of MaxPairs: %v", err)
				}
				stays(t, s, func() {
					tells(t, s, "", "")
					c, seen := opened(t, s, "", ""), 0
					for was := ""; ; seen++ {
						p, is := c.Next()
						if !is {
							break
						}
						if order(was, string(p.Key)) != -1 {
							t.Fatalf("%q comes behind %q", p.Key, was)
						}
						was = string(p.Key)
					}
					if seen != api.MaxPairs {
						t.Fatalf("%d pairs", seen)
					}
				})
			})
		}
	}
}

func TestLimits(t *testing.T) { // P10.2: each one about the number of pairs, and about a leaf's
	for _, m := range all() {
		for _, many := range []int{0, 1, m, m + 1, 70} {
			for _, s := range both(t, m, rising(many)) {
				stays(t, s, func() {
					for limit := -2; limit < many+3; limit++ {
						ranges(t, s, "", "", limit)
						ranges(t, s, number(15), number(10*many-5+10*m), limit)
						ranges(t, s, number(5*many), "", limit)
					}
					ranges(t, s, "", "", math.MinInt, math.MinInt+1, math.MaxInt, math.MaxInt-1, 1<<31, 1<<32, -1<<32, 1<<62)
				})
			}
		}
	}
}

func TestMiddle(t *testing.T) { // P10.2: of none, one, two, three, even and odd numbers
	for _, m := range all() {
		for many := range 70 {
			for _, s := range both(t, m, rising(many)) {
				stays(t, s, func() { middle(t, s) })
			}
		}
		for _, many := range []int{api.MaxPairs - 1, api.MaxPairs} {
			for _, s := range both(t, m, rising(many)) {
				stays(t, s, func() { middle(t, s) })
			}
		}
		s := filled(t, m, words(300))
		for _, k := range shuffled(s.keys()) { // down to none
			s.drop(t, k)
			middle(t, s)
		}
	}
}

func TestMiddleOfFew(t *testing.T) { // P10.2, in words: the pair behind as many as half of all, cut off
	for many, want := range []string{"", "", "b", "b", "c", "c", "d"} {
		s := filled(t, 3, strings.Split("abcdef", "")[:many])
		if k, is := cursor.Middle(s.tr); string(k) != want || is != (many > 1) {
			t.Errorf("Middle of %d: %q, %v, not %q", many, k, is, want)
		}
	}
}

// walker is a cursor, and what it has still to tell.
type walker struct {
	c    *cursor.Cursor
	left []pair
}

func (w *walker) step(t *testing.T) {
	t.Helper()
	if len(w.left) == 0 {
		over(t, w.c)
		return
	}
	told := next(t, w.c, w.left[0])
	scribble(told.Key, told.Val)
	w.left = w.left[1:]
}

func TestCursorsByTurns(t *testing.T) { // P10.1: of one tree, of one range and of others, and other calls between
	for _, m := range all() {
		for i, s := range both(t, m, rising(150)) {
			t.Run(fmt.Sprint(m, " ", i), func(t *testing.T) {
				t.Parallel()
				l, draw := ends(s.keys()), draws(m)
				stays(t, s, func() {
					walkers := []*walker{{opened(t, s, "", ""), s.in("", "")}, {opened(t, s, "", ""), s.in("", "")}}
					for range 6 {
						at := draw(len(l) - 1)
						from, to := l[at], l[at+1+draw(len(l)-at-1)]
						walkers = append(walkers, &walker{opened(t, s, from, to), s.in(from, to)})
					}
					for range 150 {
						walkers[0].step(t)
						walkers[1].step(t)
						walkers[draw(len(walkers))].step(t)
						walkers[draw(len(walkers))].step(t)
						if draw(20) == 0 {
							ranges(t, s, l[draw(9)], "", 30)
							middle(t, s)
						}
					}
					for _, w := range walkers {
						for len(w.left) > 0 {
							w.step(t)
						}
						over(t, w.c)
					}
				})
			})
		}
	}
}

func TestCursorsOfSeveralTrees(t *testing.T) { // P10.1: the package keeps nothing of one for another
	var walkers []*walker
	for _, m := range all() {
		for i, s := range both(t, m, rising(20+m)) {
			from := number(10*m + i)
			walkers = append(walkers, &walker{opened(t, s, from, ""), s.in(from, "")})
		}
	}
	for range 60 {
		for _, w := range walkers {
			w.step(t)
		}
	}
}

func TestNewMemory(t *testing.T) { // P10.3: what was told is written into, and all is told as it was
	for _, m := range all() {
		for _, s := range both(t, m, words(120)) {
			stays(t, s, func() {
				for range 3 {
					c := opened(t, s, "", "")
					for range 120 {
						p, _ := c.Next()
						p.Key = append(p.Key, "!!"...)
						p.Val = append(p.Val, "!!"...)
						scribble(p.Key, p.Val)
					}
					over(t, c)
					goes(t, s, "", "")
					ranges(t, s, "", "", 120, 50)
					middle(t, s)
				}
			})
		}
	}
}

func TestTwoThatWereTold(t *testing.T) { // P10.3: no two of them share memory
	for _, m := range all() {
		s := filled(t, m, rising(50))
		one, other := opened(t, s, "", ""), opened(t, s, "", "")
		a, _ := cursor.Range(s.tr, api.Range{}, 50)
		b, _ := cursor.Range(s.tr, api.Range{}, 50)
		for _, p := range s.list {
			told := next(t, one, p)
			scribble(told.Key, told.Val)
			next(t, other, p)
		}
		are(t, a, s.list)
		are(t, b, s.list)
		k, _ := cursor.Middle(s.tr)
		l, _ := cursor.Middle(s.tr)
		scribble(k)
		if string(l) != s.list[25].key {
			t.Fatalf("order %d: %q", m, l)
		}
	}
}

func TestOneMemoryHandedInOften(t *testing.T) { // P10.3: a buffer that is written anew for each call, both ends of it
	for _, m := range all() {
		s := filled(t, m, rising(100))
		b := make([]byte, 32)
		var walkers []*walker
		for i := range 90 {
			from, to := number(10*i+i%20), number(10*i+100+i%30)
			r := api.Range{From: append(b[:0], from...), To: append(b[:5], to...)[5:]}
			c, err := cursor.Open(s.tr, r)
			if err != nil {
				t.Fatal(err)
			}
			if n, err := cursor.Count(s.tr, r); n != len(s.in(from, to)) || err != nil || string(b[:10]) != from+to {
				t.Fatalf("Count(%q to %q): %d, %v", from, to, n, err)
			}
			walkers = append(walkers, &walker{c, s.in(from, to)})
			scribble(b)
		}
		for range 15 {
			for _, w := range walkers {
				w.step(t)
			}
		}
	}
}

func TestWhatWasToldAsEnds(t *testing.T) { // P10.3: and stays as it was told
	for _, m := range all() {
		s := filled(t, m, rising(60))
		l, _ := cursor.Range(s.tr, api.Range{}, 60)
		for i := 1; i < len(l); i++ {
			r := api.Range{From: l[i-1].Key, To: l[i].Key}
			if n, err := cursor.Count(s.tr, r); n != 1 || err != nil {
				t.Fatalf("Count(%q): %d, %v", r, n, err)
			}
			some, err := cursor.Range(s.tr, r, 9)
			if err != nil {
				t.Fatal(err)
			}
			are(t, some, s.list[i-1:i])
		}
		are(t, l, s.list)
	}
}

func TestWhatIsPutAndDeletedBetween(t *testing.T) { // P10.4: each call goes by the tree as it is then
	for round := range 28 {
		t.Run(fmt.Sprint(round), func(t *testing.T) {
			t.Parallel()
			draw := draws(round)
			s, pool := empty(t, 3+round%14), words(20+draw(200))
			l := append(ends(pool), overA, overZ)
			for i := range 400 {
				k := pool[draw(len(pool))]
				if draw(8) < 5-i/100%3*2 {
					s.put(t, k, []string{"v", "", fullV, number(i)}[i%4])
				} else {
					s.drop(t, k)
				}
				asks(t, s, l[draw(len(l))], l[draw(len(l))])
				asks(t, s, k, k+"\x00")
				middle(t, s)
			}
			stays(t, s, func() { tells(t, s, "", "") })
			for _, k := range shuffled(s.keys()) {
				s.drop(t, k)
			}
			stays(t, s, func() { tells(t, s, "", "") })
		})
	}
}

func TestAllArguments(t *testing.T) { // P1, R3
	lists := [][]byte{nil, {}, {0}, {0xff}, []byte("a"), []byte(longA), []byte(overA), []byte(fullV), make([]byte, 1<<16)}
	for _, m := range all() {
		for _, s := range both(t, m, append(rising(20), "\x00", "a", longA, "\xff")) {
			stays(t, s, func() {
				for _, from := range lists {
					for _, to := range lists {
						asks(t, s, string(from), string(to))
						tellsNot(t, nil, string(from), string(to))
					}
				}
			})
		}
	}
}

// harms is what others may do to a tree, whose fields are open to all.
func harms() []func(tr *tree.Tree) {
	l := []func(tr *tree.Tree){
		func(tr *tree.Tree) { tr.Root = -1 },
		func(tr *tree.Tree) { tr.Root = math.MaxInt },
		func(tr *tree.Tree) { tr.Order = math.MinInt },
		func(tr *tree.Tree) { tr.Many = math.MinInt },
		func(tr *tree.Tree) { tr.Many = math.MaxInt },
		func(tr *tree.Tree) { tr.Many = 0 },
		func(tr *tree.Tree) { tr.A = nil },
		func(tr *tree.Tree) { tr.A = arena.New() },
		func(tr *tree.Tree) { tr.A.Free(tr.Root) },
		func(tr *tree.Tree) { tr.A.Free(tr.Leaf(nil)) },
		func(tr *tree.Tree) { tr.A.Free(tr.Leaf([]byte(number(200)))) },
		func(tr *tree.Tree) { tr.Root = tr.A.Make(arena.Node{Kids: []int{tr.Root}}) },
	}
	pairs := []api.Pair{{Key: []byte("b")}, {Key: []byte("a")}, {}, {Key: []byte("b")}}
	keys := [][]byte{[]byte("b"), nil, []byte("a")}
	for part := 1; part <= 3; part++ {
		for _, n := range []arena.Node{
			{},
			{Leaf: true, Next: -1},
			{Leaf: true}, // each one's next leaf is the first node
			{Leaf: true, Pairs: pairs},
			{Leaf: true, Pairs: pairs, Next: 1},
			{Leaf: true, Pairs: pairs, Next: math.MaxInt},
			{Leaf: true, Pairs: pairs, Next: math.MinInt},
			{Leaf: true, Pairs: pairs[:1], Keys: keys, Kids: []int{0, 1, 2, 3}, Next: 1},
			{Pairs: pairs, Keys: keys[:1], Kids: []int{0, 1}, Next: 1},
			{Keys: keys, Kids: []int{-1, 99, math.MinInt, math.MaxInt}},
			{Kids: []int{0}},
			{Kids: []int{2}},
		} {
			l = append(l, func(tr *tree.Tree) {
				for i := range tr.A.Len() {
					if i%part == 0 {
						tr.A.Set(i, n)
					}
				}
			})
		}
	}
	for part := 1; part <= 3; part++ { // leaves in a ring
		l = append(l, func(tr *tree.Tree) {
			for i := range tr.A.Len() {
				if n, is := tr.A.Get(i); is && n.Leaf {
					n.Next = (i + part) % tr.A.Len()
					tr.A.Set(i, n)
				}
			}
		})
	}
	return l
}

// ended holds a cursor to come to an end.
func ended(t *testing.T, c *cursor.Cursor) {
	t.Helper()
	for range 100 * api.MaxPairs {
		if _, is := c.Next(); !is {
			over(t, c)
			return
		}
	}
	t.Fatal("a cursor goes on and on")
}

func TestCallsEndWhateverOthersDid(t *testing.T) { // P1, R3: ahead of the calls, and behind Open
	for i, harm := range harms() {
		for _, many := range []int{0, 1, 2, 4, 40} {
			for _, r := range []api.Range{{}, {From: []byte(number(20))}, {To: []byte(number(200))}, {From: []byte("a"), To: []byte("c")}} {
				s := filled(t, 3, rising(many))
				fresh, _ := cursor.Open(s.tr, r)
				begun, _ := cursor.Open(s.tr, r)
				begun.Next()
				harm(s.tr)
				ended(t, fresh)
				ended(t, begun)
				c, err := cursor.Open(s.tr, r)
				if (c == nil) != (err != nil) {
					t.Fatalf("harm %d: Open: %v, %v", i, c, err)
				}
				if c != nil {
					ended(t, c)
				}
				l, failed := cursor.Range(s.tr, r, math.MaxInt)
				n, none := cursor.Count(s.tr, r)
				if failed != err || none != err || len(l) != n {
					t.Fatalf("harm %d: Range, Count: %q, %v, %d, %v", i, l, failed, n, none)
				}
				if k, is := cursor.Middle(s.tr); !is && k != nil {
					t.Fatalf("harm %d: Middle: %q", i, k)
				}
			}
		}
	}
}
