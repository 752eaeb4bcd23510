package bulk_test

import (
	"bytes"
	"fmt"
	"math"
	"slices"
	"strings"
	"testing"

	"garnet/api"
	"garnet/bulk"
	"garnet/cursor"
	"garnet/prune"
	"garnet/tree"
)

// Keys of MaxKey bytes and of one more, values of MaxVal bytes and of one more.
const (
	longA = "aaaaaaaaaaaaaaaa"
	longZ = "zzzzzzzzzzzzzzzz"
	overA = longA + "a"
	overZ = longZ + "z"
	fullV = "vvvvvvvvvvvvvvvvvvvvvvvvvvvvvvvv"
	overV = fullV + "v"
)

// order is chapter 5's, byte by byte.
func order(a, b string) int {
	for i := 0; i < len(a) && i < len(b); i++ {
		if a[i] < b[i] {
			return -1
		}
		if a[i] > b[i] {
			return 1
		}
	}
	return min(1, max(-1, len(a)-len(b)))
}

// lies is chapter 5's word of a key in a range.
func lies(from, to, k string) bool {
	return order(k, from) >= 0 && (to == "" || order(to, k) > 0)
}

// draws is numbers that look like chance and are the same in each run.
func draws(seed int) func(k int) int {
	at := uint64(seed)
	return func(k int) int {
		at = at*6364136223846793005 + 1442695040888963407
		return int(at>>33) % k
	}
}

// all is every order that there may be.
func all() []int {
	var l []int
	for m := 3; m <= 16; m++ {
		l = append(l, m)
	}
	return l
}

// pair is one of a plain list.
type pair struct{ key, val string }

func byKey(p pair, k string) int { return order(p.key, k) }

// pairs is these keys, each with a value.
func pairs(keys []string) []pair {
	var l []pair
	for i, k := range keys {
		l = append(l, pair{k, []string{"v" + k, "", "\x00", fullV}[i%4]})
	}
	return l
}

// number is a key that rises with a number.
func number(i int) string { return fmt.Sprintf("%05d", i) }

// rising is so many pairs, their keys ten apart, so that others are between.
func rising(many int) []pair {
	var l []string
	for i := range many {
		l = append(l, number(10*i+10))
	}
	return pairs(l)
}

// words is so many pairs, by keys that begin with others, and are no text: of
// the least and the greatest byte, and of MaxKey bytes.
func words(many int) []pair {
	var l []string
	for i := 0; len(l) < many+many/8; i++ {
		k := []byte{"\x00\x01B\x7f\x80\xfe\xff"[i%7]}
		for rest := i / 7; rest > 0; rest /= 3 {
			k = append(k, "\x00m\xff"[rest%3])
		}
		if i%11 == 0 {
			k = append(k, bytes.Repeat(k[:1], 16-len(k))...)
		}
		l = append(l, string(k))
	}
	slices.SortFunc(l, order)
	return pairs(slices.Compact(l)[:many])
}

// shuffled is these in an order like by chance.
func shuffled[T any](l []T) []T {
	draw, l := draws(1), slices.Clone(l)
	for i := range l {
		j := i + draw(len(l)-i)
		l[i], l[j] = l[j], l[i]
	}
	return l
}

// shape is what a walk over all nodes of a tree comes to.
type shape struct {
	tr     *tree.Tree
	leaves []int
	nexts  []int
	firsts []string // of each leaf that has pairs, the first key
	lasts  []string
	seams  []string // the keys of all other nodes
	list   []pair
	deep   int
	seen   int
	fault  string
}

// wrong tells the first thing that is wrong.
func (s *shape) wrong(form string, args ...any) {
	if s.fault == "" {
		s.fault = fmt.Sprintf(form, args...)
	}
}

// sound holds a tree against chapter 8's list, point by point.
func sound(t *testing.T, tr *tree.Tree) *shape {
	t.Helper()
	s := &shape{tr: tr}
	s.walk(tr.Root, "", "", 1)
	for i, next := range s.nexts {
		if want := append(s.leaves, -1)[i+1]; next != want {
			s.wrong("behind leaf %d comes %d, not %d", s.leaves[i], next, want)
		}
	}
	if tr.A.Used() != s.seen {
		s.wrong("%d nodes are in use, and %d are the tree's", tr.A.Used(), s.seen)
	}
	if tr.Many != len(s.list) || tr.Height() != s.deep {
		s.wrong("many %d, height %d: not %d, %d", tr.Many, tr.Height(), len(s.list), s.deep)
	}
	s.bounds()
	if s.fault != "" {
		t.Fatalf("%s\n%s", s.fault, text(tr))
	}
	return s
}

func (s *shape) walk(i int, from, to string, depth int) {
	n, is := s.tr.A.Get(i)
	if s.seen++; !is || s.seen > s.tr.A.Len() || s.fault != "" {
		s.wrong("node %d: %v, the %d.", i, is, s.seen)
		return
	}
	keys := slices.Clone(n.Keys)
	for _, p := range n.Pairs {
		keys = append(keys, p.Key)
	}
	s.keys(i, keys, from, to)
	if n.Leaf {
		if s.deep == 0 {
			s.deep = depth
		}
		if depth != s.deep || len(n.Keys)+len(n.Kids) > 0 {
			s.wrong("leaf %d, at depth %d, not %d: %v", i, depth, s.deep, n)
		}
		s.leaves, s.nexts = append(s.leaves, i), append(s.nexts, n.Next)
		s.leaf(n.Pairs)
		return
	}
	if len(n.Keys) < 1 || len(n.Kids) != len(n.Keys)+1 || len(n.Pairs) > 0 {
		s.wrong("node %d: %v", i, n)
		return
	}
	for at, kid := range n.Kids {
		low, high := from, to
		if at > 0 {
			low = string(n.Keys[at-1])
		}
		if at < len(n.Keys) {
			high = string(n.Keys[at])
			s.seams = append(s.seams, high)
		}
		s.walk(kid, low, high, depth+1)
	}
}

// keys is what a node's keys, or its pairs', are to be like.
func (s *shape) keys(i int, keys [][]byte, from, to string) {
	m := s.tr.Order
	if len(keys) > m || i != s.tr.Root && len(keys) < m/2 {
		s.wrong("node %d has %d keys, of order %d", i, len(keys), m)
	}
	for at, k := range keys {
		if len(k) < 1 || len(k) > 16 || !lies(from, to, string(k)) {
			s.wrong("node %d, from %q to %q: key %q", i, from, to, k)
		}
		if at > 0 && order(string(keys[at-1]), string(k)) != -1 {
			s.wrong("node %d: its keys don't rise: %q", i, keys)
		}
	}
}

func (s *shape) leaf(l []api.Pair) {
	for at, p := range l {
		if len(p.Val) > 32 {
			s.wrong("%q has the value %q", p.Key, p.Val)
		}
		if at == 0 {
			s.firsts = append(s.firsts, string(p.Key))
		}
		if at == len(l)-1 {
			s.lasts = append(s.lasts, string(p.Key))
		}
		s.list = append(s.list, pair{string(p.Key), string(p.Val)})
	}
}

// bounds is P8.4's: a root that is no leaf has two kids at least, another node
// one more than m halved, a leaf as many pairs as m halved.
func (s *shape) bounds() {
	half, many, highest := s.tr.Order/2, len(s.list), 1
	if most := max(1, 2*(many/half)); s.tr.A.Used() > most {
		s.wrong("%d nodes, of %d pairs: %d at most", s.tr.A.Used(), many, most)
	}
	for least := 2 * half; least <= many; least *= half + 1 {
		highest++
	}
	if s.deep > highest {
		s.wrong("height %d, of %d pairs: %d at most", s.deep, many, highest)
	}
}

// text tells all of a tree, node by node.
func text(tr *tree.Tree) string {
	if tr == nil || tr.A == nil {
		return "none"
	}
	var b strings.Builder
	fmt.Fprintf(&b, "root %d, order %d, many %d, used %d", tr.Root, tr.Order, tr.Many, tr.A.Used())
	for i := range tr.A.Len() {
		n, is := tr.A.Get(i)
		fmt.Fprintf(&b, "\n%d: %v %v %q %q %v %d", i, is, n.Leaf, n.Pairs, n.Keys, n.Kids, n.Next)
	}
	return b.String()
}

// roomy is a text's bytes with room behind them, where a careless append
// would write.
func roomy(s string) []byte { return append(bytes.Repeat([]byte{'#'}, len(s)+8)[:0], s...) }

func untouched(b []byte, s string) bool {
	return string(b) == s && string(b[:len(s)+8]) == string(roomy(s)[:len(s)+8])
}

// scribble writes over all that these bytes may reach.
func scribble(lists ...[]byte) {
	for _, b := range lists {
		b = b[:cap(b)]
		for i := range b {
			b[i] = '!'
		}
	}
}

// handed is pairs that are handed in, with room behind them, and what they are
// to stay.
type handed struct {
	l    []api.Pair
	want []pair
}

func hand(want []pair) handed {
	h := handed{make([]api.Pair, len(want), len(want)+3), want}
	for i, p := range want {
		h.l[i] = api.Pair{Key: roomy(p.key), Val: roomy(p.val)}
	}
	return h
}

func (h handed) stays(t *testing.T) {
	t.Helper()
	for i, p := range h.want {
		if !untouched(h.l[i].Key, p.key) || !untouched(h.l[i].Val, p.val) {
			t.Fatalf("pair %d was changed: %q, not %q", i, h.l[i], p)
		}
	}
	for _, p := range h.l[len(h.l):cap(h.l)] {
		if p.Key != nil || p.Val != nil {
			t.Fatalf("behind the pairs there is one: %q", p)
		}
	}
}

func (h handed) scribble() {
	for _, p := range h.l {
		scribble(p.Key, p.Val)
	}
	clear(h.l[:cap(h.l)])
}

// subject is a tree, and the plain list of its pairs.
type subject struct {
	tr   *tree.Tree
	m    int
	list []pair
}

// held holds a tree to be sound, of its order, and to have the plain list's
// pairs.
func (s *subject) held(t *testing.T) *shape {
	t.Helper()
	if s.tr == nil {
		t.Fatal("no tree")
	}
	sh := sound(t, s.tr)
	if s.tr.Order != s.m {
		t.Fatalf("order %d, not %d", s.tr.Order, s.m)
	}
	if !slices.Equal(sh.list, s.list) {
		t.Fatalf("%d pairs: %q, not %q", len(sh.list), sh.list, s.list)
	}
	return sh
}

// stays holds trees to be as they were behind calls.
func stays(t *testing.T, l []*tree.Tree, calls func()) {
	t.Helper()
	var was []string
	for _, tr := range l {
		was = append(was, text(tr))
	}
	calls()
	for i, tr := range l {
		if is := text(tr); is != was[i] {
			t.Fatalf("tree %d was changed:\n%s\n%s", i, was[i], is)
		}
	}
}

// load loads pairs. They are held to be as they were, and written over then,
// so that the tree shows whether it has any of their memory: P11.3.
func load(t *testing.T, m int, list []pair) *subject {
	t.Helper()
	h := hand(list)
	tr, err := bulk.Load(m, h.l)
	if err != nil {
		t.Fatalf("Load(%d) of %d: %v", m, len(list), err)
	}
	h.stays(t)
	h.scribble()
	s := &subject{tr, m, slices.Clone(list)}
	s.held(t)
	return s
}

// loadsNot holds a Load to tell an error, by ==, for it is to be the Code
// itself, and no tree.
func loadsNot(t *testing.T, m int, list []pair, want api.Code) {
	t.Helper()
	h := hand(list)
	if tr, err := bulk.Load(m, h.l); tr != nil || err != want {
		t.Fatalf("Load(%d) of %d: %v, %v, not %v", m, len(list), tr, err, want)
	}
	h.stays(t)
}

// apart holds trees to have an arena each.
func apart(t *testing.T, l ...*tree.Tree) {
	t.Helper()
	for i, tr := range l {
		for _, other := range l[:i] {
			if tr == other || tr.A == other.A {
				t.Fatalf("two trees are one, or have one arena: %s", text(tr))
			}
		}
	}
}

// cut cuts a tree, that stays as it was, and holds both that are told against
// the plain list.
func cut(t *testing.T, s *subject, k string) (*subject, *subject) {
	t.Helper()
	var low, high *tree.Tree
	key := roomy(k)
	stays(t, []*tree.Tree{s.tr}, func() {
		var err error
		if low, high, err = bulk.Cut(s.tr, key); err != nil {
			t.Fatalf("Cut(%q): %v", k, err)
		}
	})
	if !untouched(key, k) {
		t.Fatalf("Cut(%q) changed it: %q", k, key)
	}
	scribble(key)
	at, _ := slices.BinarySearchFunc(s.list, k, byKey)
	a := &subject{low, s.m, slices.Clone(s.list[:at])}
	b := &subject{high, s.m, slices.Clone(s.list[at:])}
	a.held(t)
	b.held(t)
	apart(t, s.tr, low, high)
	return a, b
}

// cutsNot holds a Cut to tell ErrArg, no trees, and to change nothing.
func cutsNot(t *testing.T, tr *tree.Tree, k []byte) {
	t.Helper()
	stays(t, []*tree.Tree{tr}, func() {
		was := string(k)
		if low, high, err := bulk.Cut(tr, k); low != nil || high != nil || err != api.ErrArg || string(k) != was {
			t.Fatalf("Cut(%.40q): %v, %v, %v", k, low, high, err)
		}
	})
}

// join joins two, that stay as they were, and holds what is told against the
// plain lists.
func join(t *testing.T, a, b *subject) *subject {
	t.Helper()
	s := &subject{m: a.m, list: slices.Concat(a.list, b.list)}
	stays(t, []*tree.Tree{a.tr, b.tr}, func() {
		var err error
		if s.tr, err = bulk.Join(a.tr, b.tr); err != nil {
			t.Fatalf("Join of %d and %d: %v", len(a.list), len(b.list), err)
		}
	})
	s.held(t)
	apart(t, s.tr, a.tr)
	apart(t, s.tr, b.tr)
	return s
}

// joinsNot holds a Join to tell an error, no tree, and to change nothing.
func joinsNot(t *testing.T, a, b *tree.Tree, want api.Code) {
	t.Helper()
	stays(t, []*tree.Tree{a, b}, func() {
		if tr, err := bulk.Join(a, b); tr != nil || err != want {
			t.Fatalf("Join: %v, %v, not %v", tr, err, want)
		}
	})
}

// put puts a pair, and holds what is told against the plain list.
func (s *subject) put(t *testing.T, k, v string) {
	t.Helper()
	at, is := slices.BinarySearchFunc(s.list, k, byKey)
	fresh, err := s.tr.Put([]byte(k), []byte(v))
	if !is && len(s.list) == api.MaxPairs {
		if fresh || err != api.ErrFull {
			t.Fatalf("Put(%q) to MaxPairs: %v, %v", k, fresh, err)
		}
		return
	}
	if fresh == is || err != nil {
		t.Fatalf("Put(%q): %v, %v", k, fresh, err)
	}
	if !is {
		s.list = slices.Insert(s.list, at, pair{})
	}
	s.list[at] = pair{k, v}
}

func (s *subject) drop(t *testing.T, k string) {
	t.Helper()
	at, is := slices.BinarySearchFunc(s.list, k, byKey)
	if was, err := prune.Delete(s.tr, []byte(k)); was != is || err != nil {
		t.Fatalf("Delete(%q): %v, %v", k, was, err)
	}
	if is {
		s.list = slices.Delete(s.list, at, at+1)
	}
}

// told holds what a cursor tells of a range, and Get, against the plain list.
func (s *subject) told(t *testing.T, from, to string) {
	t.Helper()
	var want, got []pair
	for _, p := range s.list {
		if lies(from, to, p.key) {
			want = append(want, p)
		}
	}
	l, err := cursor.Range(s.tr, api.Range{From: []byte(from), To: []byte(to)}, math.MaxInt)
	for _, p := range l {
		got = append(got, pair{string(p.Key), string(p.Val)})
	}
	if err != nil || !slices.Equal(got, want) {
		t.Fatalf("%q to %q: %q, %v, not %q", from, to, got, err, want)
	}
	for _, p := range want {
		if v, is := s.tr.Get([]byte(p.key)); string(v) != p.val || !is {
			t.Fatalf("Get(%q): %q, %v, not %q", p.key, v, is, p.val)
		}
	}
	if v, is := s.tr.Get([]byte(from + "?")); v != nil || is {
		t.Fatalf("Get(%q): %q, %v", from+"?", v, is)
	}
}

// alike holds two trees to be told alike: one that was made as a whole, and
// one that was put pair by pair.
func alike(t *testing.T, s, twin *subject) {
	t.Helper()
	s.held(t)
	twin.held(t)
	if !slices.Equal(s.list, twin.list) {
		t.Fatalf("%q, not %q", s.list, twin.list)
	}
	s.told(t, "", "")
	k, is := cursor.Middle(s.tr)
	l, are := cursor.Middle(twin.tr)
	if string(k) != string(l) || is != are {
		t.Fatalf("Middle: %q, %v, not %q, %v", k, is, l, are)
	}
}

// lives puts into a tree, and deletes from it, and from one of the same pairs
// that was put pair by pair, till both have none.
func (s *subject) lives(t *testing.T) {
	t.Helper()
	twin, draw := filled(t, s.m, s.list), draws(len(s.list))
	alike(t, s, twin)
	do := func(call func(s *subject)) {
		call(s)
		call(twin)
		s.held(t)
	}
	reach := 10*len(s.list) + 20
	for range 4 * s.m {
		k := number(draw(reach))
		do(func(s *subject) { s.put(t, k, "w"+k) })
		if draw(3) == 0 {
			k = number(10 * draw(reach/10))
			do(func(s *subject) { s.drop(t, k) })
		}
	}
	alike(t, s, twin)
	for i, p := range shuffled(s.list) {
		s.drop(t, p.key)
		if twin.drop(t, p.key); i%16 == 0 || len(s.list) < 3*s.m {
			s.held(t)
			s.told(t, number(draw(reach)), "")
		}
	}
	alike(t, s, twin)
	if s.tr.Height() != 1 || s.tr.A.Used() != 1 {
		t.Fatalf("not empty: %s", text(s.tr))
	}
	s.put(t, "a", "v")
	s.held(t)
}

// way is one in which a tree of just these pairs is made.
type way struct {
	name string
	make func(t *testing.T, m int, list []pair) *subject
}

func ways() []way {
	return []way{
		{"put", filled}, {"deleted from", thinned}, {"loaded", load},
		{"cut low", cutLow}, {"cut high", cutHigh}, {"joined", joined},
	}
}

func filled(t *testing.T, m int, list []pair) *subject {
	t.Helper()
	tr, err := tree.New(m)
	if err != nil {
		t.Fatal(err)
	}
	s := &subject{tr: tr, m: m}
	for _, p := range shuffled(list) {
		s.put(t, p.key, p.val)
	}
	return s
}

// others is keys that are none of these, as many as there is room for: just
// behind some of them, and a run outside.
func others(list []pair, run string, m int) []string {
	var l []string
	for i := range 5 * m {
		l = append(l, run+number(i))
	}
	for i, p := range list {
		if len(p.key) < 16 && i < 300 {
			l = append(l, p.key+"5")
		}
	}
	l = slices.DeleteFunc(l, func(k string) bool {
		_, is := slices.BinarySearchFunc(list, k, byKey)
		return is
	})
	return l[:min(len(l), api.MaxPairs-len(list))]
}

// thinned is a tree into which others were put, too, that were deleted then;
// where there is no room for others, some of its own keys were.
func thinned(t *testing.T, m int, list []pair) *subject {
	t.Helper()
	s, gone := filled(t, m, list), others(list, "~", m)
	for _, k := range gone {
		s.put(t, k, "")
	}
	for _, k := range shuffled(gone) {
		s.drop(t, k)
	}
	for i, p := range list {
		if i%3 == 0 && i < 60 {
			s.drop(t, p.key)
		}
	}
	for i, p := range list {
		if i%3 == 0 && i < 60 {
			s.put(t, p.key, p.val)
		}
	}
	return s
}

// cutLow is what is below a key that is above all, and was put, too, if there
// is room for it.
func cutLow(t *testing.T, m int, list []pair) *subject {
	t.Helper()
	end := strings.Repeat("\xff", 16)
	s := filled(t, m, list)
	if len(list) < api.MaxPairs {
		s.put(t, end, "")
	}
	s, _ = cut(t, s, end)
	return s
}

// cutHigh is what is from the least key of all on, and from the first one on.
func cutHigh(t *testing.T, m int, list []pair) *subject {
	t.Helper()
	s := filled(t, m, list)
	if k := number(0); len(list) > 0 && len(list) < api.MaxPairs && order(k, list[0].key) < 0 {
		s.put(t, k, "")
		_, s = cut(t, s, list[0].key)
	}
	_, s = cut(t, s, "\x00")
	return s
}

func joined(t *testing.T, m int, list []pair) *subject {
	t.Helper()
	at := len(list) / 3
	return join(t, filled(t, m, list[:at]), filled(t, m, list[at:]))
}
