package prune_test

import (
	"bytes"
	"fmt"
	"maps"
	"math"
	"runtime/debug"
	"slices"
	"strings"
	"testing"

	"garnet/api"
	"garnet/arena"
	"garnet/prune"
	"garnet/tree"
)

// TestMain lets more memory be used ahead of each collection: the trees here
// are small and many, and most of the time would go into collecting them.
func TestMain(m *testing.M) {
	debug.SetGCPercent(800)
	m.Run()
}

// Keys of MaxKey bytes and of one more, a value of MaxVal bytes.
const (
	longA = "aaaaaaaaaaaaaaaa"
	longZ = "zzzzzzzzzzzzzzzz"
	overA = longA + "a"
	fullV = "vvvvvvvvvvvvvvvvvvvvvvvvvvvvvvvv"
)

// order is chapter 5's, byte by byte.
func order(a, b string) int {
	for i := 0; i < len(a) && i < len(b); i++ {
		if a[i] < b[i] {
			return -1
		}
		if a[i] > b[i] {
			return 1
		}
	}
	return min(1, max(-1, len(a)-len(b)))
}

// lies is chapter 5's word of a key in a range.
func lies(from, to, k string) bool {
	return order(k, from) >= 0 && (to == "" || order(to, k) > 0)
}

// draws is numbers that look like chance and are the same in each run.
func draws() func(k int) int {
	seed := uint64(1)
	return func(k int) int {
		seed = seed*6364136223846793005 + 1442695040888963407
		return int(seed>>33) % k
	}
}

// all is every order that there may be.
func all() []int {
	var l []int
	for m := 3; m <= 16; m++ {
		l = append(l, m)
	}
	return l
}

// number is a key that rises with a number.
func number(i int) string { return fmt.Sprintf("%05d", i) }

// rising is so many keys, ten apart, so that others are between them.
func rising(many int) []string {
	var l []string
	for i := range many {
		l = append(l, number(10*i+10))
	}
	return l
}

// words is many keys, rising, by turns ones that others begin with and ones
// of no text: the least and the greatest byte, and those of MaxKey bytes.
func words(many int) []string {
	var l []string
	for i := 0; len(l) < many; i++ {
		k := []byte{"\x00\x01B\x7f\x80\xfe\xff"[i%7]}
		for rest := i / 7; rest > 0; rest /= 3 {
			k = append(k, "\x00m\xff"[rest%3])
		}
		if i%11 == 0 {
			k = append(k, bytes.Repeat(k[:1], 16-len(k))...)
		}
		l = append(l, string(k))
	}
	slices.SortFunc(l, order)
	return slices.Compact(l)
}

// shuffled is these in an order like by chance.
func shuffled(keys []string) []string {
	draw, l := draws(), slices.Clone(keys)
	for i := range l {
		j := i + draw(len(l)-i)
		l[i], l[j] = l[j], l[i]
	}
	return l
}

// backwards is these from the last one on.
func backwards(keys []string) []string {
	l := slices.Clone(keys)
	slices.Reverse(l)
	return l
}

// sequence is keys in the order in which they are put, or deleted.
type sequence struct {
	name string
	keys []string
}

// sequences is rising keys in many orders.
func sequences(keys []string) []sequence {
	var inwards, stepping []string
	many := len(keys)
	for i := range many {
		inwards = append(inwards, keys[[]int{i / 2, many - 1 - i/2}[i%2]])
		stepping = append(stepping, keys[i*7919%many])
	}
	half := many / 2
	return []sequence{
		{"rising", keys},
		{"falling", backwards(keys)},
		{"from the middle on", slices.Concat(keys[half:], keys[:half])},
		{"from the middle back", slices.Concat(backwards(keys[:half]), backwards(keys[half:]))},
		{"inwards", inwards},
		{"outwards", backwards(inwards)},
		{"stepping", stepping},
		{"any", shuffled(keys)},
	}
}

// around is keys that stand just ahead of these, and just behind, or begin
// like them, those below all and above all, and those that may be no keys.
func around(keys []string) []string {
	l := []string{"", "\x00", longA, overA, longZ, longZ + "z", strings.Repeat("\xff", 16), strings.Repeat("\xff", 17), strings.Repeat("k", 1<<12)}
	for _, k := range keys {
		last := len(k) - 1
		l = append(l, k, k[:last], k+"\x00", k+"\xff", k[:last]+string([]byte{k[last] - 1}))
	}
	return l
}

// leafAt is a leaf of a tree, and its number.
type leafAt struct {
	number int
	node   arena.Node
}

// shape is what a walk over all nodes of a tree comes to.
type shape struct {
	t      *tree.Tree
	leaves []leafAt
	depths []int // of the leaves
	seams  []string
	seen   map[int]int
	fault  string
}

// wrong tells the first thing that is wrong.
func (s *shape) wrong(form string, args ...any) {
	if s.fault == "" {
		s.fault = fmt.Sprintf(form, args...)
	}
}

// walked is a tree's shape, or what makes it unsound: chapter 8's list once
// more, point by point.
func walked(tr *tree.Tree) *shape {
	s := &shape{t: tr, seen: map[int]int{}}
	s.walk(tr.Root, "", "", 1)
	pairs := 0
	for i, l := range s.leaves {
		pairs += len(l.node.Pairs)
		if s.depths[i] != s.depths[0] {
			s.wrong("leaf %d has depth %d, not %d", l.number, s.depths[i], s.depths[0])
		}
		next := -1
		if i+1 < len(s.leaves) {
			next = s.leaves[i+1].number
		}
		if l.node.Next != next {
			s.wrong("behind leaf %d comes %d, not %d", l.number, l.node.Next, next)
		}
	}
	if tr.A.Used() != len(s.seen) {
		s.wrong("%d nodes are in use, and %d are the tree's", tr.A.Used(), len(s.seen))
	}
	if tr.Many != pairs {
		s.wrong("Many is %d, of %d pairs", tr.Many, pairs)
	}
	if got := tr.Height(); got != s.height() {
		s.wrong("Height: %d, not %d", got, s.height())
	}
	s.bounds(pairs)
	return s
}

func (s *shape) height() int { return s.depths[0] }

func (s *shape) walk(i int, from, to string, depth int) {
	n, is := s.t.A.Get(i)
	s.seen[i]++
	if !is || s.seen[i] > 1 || depth > 20 {
		s.wrong("node %d: %v, the %d. time", i, is, s.seen[i])
	}
	if s.fault == "" && n.Leaf {
		s.leaf(i, n, from, to)
	}
	if s.fault != "" || n.Leaf {
		s.leaves, s.depths = append(s.leaves, leafAt{i, n}), append(s.depths, depth)
		return
	}
	s.other(i, n, from, to)
	for at := 0; s.fault == "" && at < len(n.Kids); at++ {
		low, high := from, to
		if at > 0 {
			low = string(n.Keys[at-1])
		}
		if at < len(n.Keys) {
			high = string(n.Keys[at])
		}
		s.walk(n.Kids[at], low, high, depth+1)
	}
	if s.fault != "" && len(s.depths) == 0 {
		s.depths = append(s.depths, depth)
	}
}

func (s *shape) leaf(i int, n arena.Node, from, to string) {
	m := s.t.Order
	if len(n.Pairs) > m || i != s.t.Root && len(n.Pairs) < m/2 {
		s.wrong("leaf %d has %d pairs, of order %d", i, len(n.Pairs), m)
	}
	if len(n.Keys) > 0 || len(n.Kids) > 0 {
		s.wrong("leaf %d has keys %q, kids %v", i, n.Keys, n.Kids)
	}
	for at, p := range n.Pairs {
		k := string(p.Key)
		if len(k) < 1 || len(k) > 16 || len(p.Val) > 32 || !lies(from, to, k) {
			s.wrong("leaf %d, from %q to %q: pair %q", i, from, to, p)
		}
		if at > 0 && order(string(n.Pairs[at-1].Key), k) != -1 {
			s.wrong("leaf %d: its pairs don't rise: %q", i, n.Pairs)
		}
	}
}

func (s *shape) other(i int, n arena.Node, from, to string) {
	m := s.t.Order
	if len(n.Keys) > m || len(n.Keys) < 1 || i != s.t.Root && len(n.Keys) < m/2 {
		s.wrong("node %d has %d keys, of order %d", i, len(n.Keys), m)
	}
	if len(n.Kids) != len(n.Keys)+1 || len(n.Pairs) > 0 || n.Next != 0 {
		s.wrong("node %d has %d keys, kids %v, pairs %q, next %d", i, len(n.Keys), n.Kids, n.Pairs, n.Next)
	}
	for at, k := range n.Keys {
		s.seams = append(s.seams, string(k))
		if len(k) < 1 || len(k) > 16 || !lies(from, to, string(k)) {
			s.wrong("node %d, from %q to %q: key %q", i, from, to, k)
		}
		if at > 0 && order(string(n.Keys[at-1]), string(k)) != -1 {
			s.wrong("node %d: its keys don't rise: %q", i, n.Keys)
		}
	}
}

// bounds is P8.4's: a root that is no leaf has two kids at least, another node
// one more than m halved, a leaf as many pairs as m halved.
func (s *shape) bounds(pairs int) {
	half := s.t.Order / 2
	if most := max(1, 2*(pairs/half)); s.t.A.Used() > most {
		s.wrong("%d nodes, of %d pairs, order %d: %d at most", s.t.A.Used(), pairs, s.t.Order, most)
	}
	highest := 1
	for least := 2 * half; least <= pairs; least *= half + 1 {
		highest++
	}
	if s.height() > highest {
		s.wrong("height %d, of %d pairs, order %d: %d at most", s.height(), pairs, s.t.Order, highest)
	}
}

// model is what a tree is to have: its order, keys, rising, and each one's
// value.
type model struct {
	order int
	keys  []string
	vals  map[string]string
}

func (m *model) put(k, v string) {
	at, is := slices.BinarySearchFunc(m.keys, k, order)
	if m.vals[k] = v; !is {
		m.keys = slices.Insert(m.keys, at, k)
	}
}

// drop tells whether a key was there.
func (m *model) drop(k string) bool {
	at, is := slices.BinarySearchFunc(m.keys, k, order)
	if is {
		m.keys = slices.Delete(m.keys, at, at+1)
		delete(m.vals, k)
	}
	return is
}

// clear tells how many keys were there.
func (m *model) clear(from, to string) int {
	gone := 0
	for _, k := range slices.Clone(m.keys) {
		if lies(from, to, k) && m.drop(k) {
			gone++
		}
	}
	return gone
}

// held holds a tree to be sound, and to have the model's pairs.
func (m *model) held(t *testing.T, tr *tree.Tree) *shape {
	t.Helper()
	s := walked(tr)
	if s.fault != "" {
		t.Fatalf("%s\n%s", s.fault, text(tr))
	}
	if tr.Order != m.order {
		t.Fatalf("order %d, not %d", tr.Order, m.order)
	}
	var l []api.Pair
	for _, leaf := range s.leaves {
		l = append(l, leaf.node.Pairs...)
	}
	m.are(t, l)
	if len(l)%16 == 0 { // a sound tree tells what its leaves have, by Next
		m.are(t, tr.Pairs())
	}
	return s
}

// are holds pairs against the model.
func (m *model) are(t *testing.T, l []api.Pair) {
	t.Helper()
	if len(l) != len(m.keys) {
		t.Fatalf("%d pairs, not %d", len(l), len(m.keys))
	}
	for i, p := range l {
		if string(p.Key) != m.keys[i] || string(p.Val) != m.vals[m.keys[i]] {
			t.Fatalf("pair %d: %q, not of %q, %q", i, p, m.keys[i], m.vals[m.keys[i]])
		}
	}
}

// gets holds Get against the model, of these keys.
func (m *model) gets(t *testing.T, tr *tree.Tree, keys ...string) {
	t.Helper()
	for _, k := range keys {
		v, is := m.vals[k]
		got, there := tr.Get([]byte(k))
		if there != is || string(got) != v {
			t.Fatalf("Get(%q): %q, %v, not %q, %v", k, got, there, v, is)
		}
	}
}

// roomy is a text's bytes with room behind them, where a careless append
// would write.
func roomy(s string) []byte { return append(bytes.Repeat([]byte{'#'}, len(s)+8)[:0], s...) }

func untouched(b []byte, s string) bool {
	return string(b) == s && string(b[:len(s)+8]) == string(roomy(s)[:len(s)+8])
}

// scribble writes over all that these bytes may reach.
func scribble(lists ...[]byte) {
	for _, b := range lists {
		b = b[:cap(b)]
		for i := range b {
			b[i] = '!'
		}
	}
}

// text tells all of a tree, node by node.
func text(tr *tree.Tree) string {
	var b strings.Builder
	fmt.Fprintf(&b, "root %d, order %d, many %d, used %d", tr.Root, tr.Order, tr.Many, tr.A.Used())
	for i := range tr.A.Len() {
		n, is := tr.A.Get(i)
		fmt.Fprintf(&b, "\n%d: %v %v %q %q %v %d", i, is, n.Leaf, n.Pairs, n.Keys, n.Kids, n.Next)
	}
	return b.String()
}

func empty(t *testing.T, m int) (*tree.Tree, *model) {
	t.Helper()
	tr, err := tree.New(m)
	if err != nil {
		t.Fatal(err)
	}
	return tr, &model{order: m, vals: map[string]string{}}
}

func puts(t *testing.T, tr *tree.Tree, m *model, keys ...string) {
	t.Helper()
	for i, k := range keys {
		v := []string{"v" + k, "", "\x00", fullV}[i%4]
		if _, err := tr.Put([]byte(k), []byte(v)); err != nil {
			t.Fatalf("Put(%q): %v", k, err)
		}
		m.put(k, v)
	}
}

// filled is a tree of these keys, put one by one.
func filled(t *testing.T, order int, keys []string) (*tree.Tree, *model) {
	t.Helper()
	tr, m := empty(t, order)
	puts(t, tr, m, keys...)
	return tr, m
}

// copied is the same tree, and model, once more.
func copied(tr *tree.Tree, m *model) (*tree.Tree, *model) {
	c := &tree.Tree{A: arena.New(), Root: tr.Root, Order: tr.Order, Many: tr.Many}
	for i := range tr.A.Len() {
		n, _ := tr.A.Get(i)
		c.A.Make(n)
	}
	for i := range tr.A.Len() {
		if _, is := tr.A.Get(i); !is {
			c.A.Free(i)
		}
	}
	return c, &model{order: m.order, keys: slices.Clone(m.keys), vals: maps.Clone(m.vals)}
}

// deletes deletes a key, and holds what is told, and what the tree is then,
// against the model; what isn't there changes nothing. What was handed in is
// held to be as it was, and written over then: R2.
func deletes(t *testing.T, tr *tree.Tree, m *model, k string) *shape {
	t.Helper()
	key, want, before := roomy(k), m.drop(k), ""
	if !want {
		before = text(tr)
	}
	was, err := prune.Delete(tr, key)
	if was != want || err != nil {
		t.Fatalf("Delete(%.40q): %v, %v, not %v", k, was, err, want)
	}
	if !untouched(key, k) {
		t.Fatalf("Delete(%.40q) changed it: %q", k, key)
	}
	scribble(key)
	if !want && text(tr) != before {
		t.Fatalf("Delete(%.40q) changed the tree:\n%s\n%s", k, before, text(tr))
	}
	m.gets(t, tr, k)
	return m.held(t, tr)
}

// clears clears a range, and holds all against the model likewise.
func clears(t *testing.T, tr *tree.Tree, m *model, from, to string) *shape {
	t.Helper()
	low, high, want, before := roomy(from), roomy(to), m.clear(from, to), ""
	if want == 0 {
		before = text(tr)
	}
	gone, err := prune.Clear(tr, api.Range{From: low, To: high})
	if gone != want || err != nil {
		t.Fatalf("Clear(%q to %q): %d, %v, not %d", from, to, gone, err, want)
	}
	if !untouched(low, from) || !untouched(high, to) {
		t.Fatalf("Clear(%q to %q) changed them: %q, %q", from, to, low, high)
	}
	scribble(low, high)
	if want == 0 && text(tr) != before {
		t.Fatalf("Clear(%q to %q) changed the tree:\n%s\n%s", from, to, before, text(tr))
	}
	m.gets(t, tr, from, to)
	return m.held(t, tr)
}

// clearsNot holds a Clear to tell ErrArg, by ==, for it is to be the Code
// itself, and to change nothing.
func clearsNot(t *testing.T, tr *tree.Tree, from, to string) {
	t.Helper()
	low, high, before := roomy(from), roomy(to), text(tr)
	gone, err := prune.Clear(tr, api.Range{From: low, To: high})
	if gone != 0 || err != api.ErrArg {
		t.Fatalf("Clear(%.40q to %.40q): %d, %v", from, to, gone, err)
	}
	if !untouched(low, from) || !untouched(high, to) {
		t.Fatalf("Clear(%.40q to %.40q) changed them: %.40q, %.40q", from, to, low, high)
	}
	if is := text(tr); is != before {
		t.Fatalf("Clear(%.40q to %.40q) changed the tree:\n%s\n%s", from, to, before, is)
	}
}

// isEmpty holds a tree to be one from which all was deleted.
func isEmpty(t *testing.T, tr *tree.Tree) {
	t.Helper()
	n, is := tr.A.Get(tr.Root)
	if tr.Height() != 1 || tr.A.Used() != 1 || tr.Many != 0 || len(tr.Pairs()) != 0 || !is || !n.Leaf || n.Next != -1 {
		t.Fatalf("not empty: %s", text(tr))
	}
}

// plan is a tree to be: a leaf of so many pairs, or another node of kids.
type plan struct {
	pairs int
	kids  []plan
}

func leaf(pairs int) plan { return plan{pairs: pairs} }

func node(kids ...plan) plan { return plan{kids: kids} }

func times(p plan, many int) []plan { return slices.Repeat([]plan{p}, many) }

// builder lays a plan's nodes, from left to right.
type builder struct {
	t    *tree.Tree
	held *model
	past int  // the leaf before
	own  bool // a key of a node that isn't a leaf is no pair's
}

// built is a tree as planned, sound. Of its leaves' keys each is there only
// once; those of other nodes are the same as pairs', or, if they are to be
// their own, stand between.
func built(t *testing.T, m int, p plan, own bool) (*tree.Tree, *model) {
	t.Helper()
	tr, held := empty(t, m)
	if err := tr.A.Free(tr.Root); err != nil {
		t.Fatal(err)
	}
	b := &builder{t: tr, held: held, past: -1, own: own}
	tr.Root = b.lay(p)
	tr.Many = len(held.keys)
	held.held(t, tr)
	return tr, held
}

func (b *builder) lay(p plan) int {
	if p.kids == nil {
		return b.leaf(p.pairs)
	}
	var n arena.Node
	for i, kid := range p.kids {
		if next := 10*len(b.held.keys) + 10; i > 0 && b.own {
			n.Keys = append(n.Keys, []byte(number(next-5)))
		} else if i > 0 {
			n.Keys = append(n.Keys, []byte(number(next)))
		}
		n.Kids = append(n.Kids, b.lay(kid))
	}
	return b.t.A.Make(n)
}

func (b *builder) leaf(pairs int) int {
	n := arena.Node{Leaf: true, Next: -1}
	for range pairs {
		k := number(10*len(b.held.keys) + 10)
		b.held.put(k, "v"+k)
		n.Pairs = append(n.Pairs, api.Pair{Key: []byte(k), Val: []byte("v" + k)})
	}
	i := b.t.A.Make(n)
	if past, is := b.t.A.Get(b.past); is {
		past.Next = i
		b.t.A.Set(b.past, past)
	}
	b.past = i
	return i
}

// neighbours is how many the neighbour before and the one behind may have: 0
// where there is none, what they must have, so that they can't lend, one
// more, and as many as may be.
func neighbours(m int) [][2]int {
	var l [][2]int
	sizes := []int{0, m / 2, m/2 + 1, m}
	for _, before := range sizes {
		for _, behind := range sizes {
			if before+behind > 0 {
				l = append(l, [2]int{before, behind})
			}
		}
	}
	return l
}

// leaves is how many of the sizes aren't 0, each as a leaf.
func leaves(sizes ...int) []plan {
	var l []plan
	for _, many := range sizes {
		if many > 0 {
			l = append(l, leaf(many))
		}
	}
	return l
}

// inners is the nodes above leaves of so many keys each that aren't 0, whose
// leaves have just as many as they must have.
func inners(m int, sizes ...int) []plan {
	var l []plan
	for _, many := range sizes {
		if many > 0 {
			l = append(l, node(times(leaf(m/2), many+1)...))
		}
	}
	return l
}

// least is the plan of a tree of a height that has the fewest pairs.
func least(m, height int) plan {
	p := leaf(m / 2)
	for range height - 2 {
		p = node(times(p, m/2+1)...)
	}
	return node(p, p)
}

func TestExample(t *testing.T) { // P9.2's: put a, delete a: height 1, nothing
	for _, m := range all() {
		tr, held := filled(t, m, []string{"a"})
		deletes(t, tr, held, "a")
		isEmpty(t, tr)
		deletes(t, tr, held, "a")
		isEmpty(t, tr)
		puts(t, tr, held, "a")
		held.held(t, tr)
		clears(t, tr, held, "", "")
		isEmpty(t, tr)
	}
}

func TestOfNoTree(t *testing.T) { // P9.1: ErrArg, whatever the key, or the range, is
	for _, k := range append(around([]string{"a"}), "b") {
		if was, err := prune.Delete(nil, []byte(k)); was || err != api.ErrArg {
			t.Errorf("Delete(nil, %.40q): %v, %v", k, was, err)
		}
		for _, to := range []string{"", "a", "b", overA} {
			if gone, err := prune.Clear(nil, api.Range{From: []byte(k), To: []byte(to)}); gone != 0 || err != api.ErrArg {
				t.Errorf("Clear(nil, %.40q to %q): %d, %v", k, to, gone, err)
			}
		}
	}
	if was, err := prune.Delete(nil, nil); was || err != api.ErrArg {
		t.Errorf("Delete(nil, nil): %v, %v", was, err)
	}
	if gone, err := prune.Clear(nil, api.Range{}); gone != 0 || err != api.ErrArg {
		t.Errorf("Clear(nil, all): %d, %v", gone, err)
	}
}

func TestErrorsAreThemselves(t *testing.T) { // the chapter's line Errors
	tr, _ := filled(t, 3, rising(9))
	_, delete := prune.Delete(nil, []byte("a"))
	_, clear := prune.Clear(nil, api.Range{})
	_, ends := prune.Clear(tr, api.Range{From: []byte("b"), To: []byte("a")})
	for i, err := range []error{delete, clear, ends} {
		if c, is := err.(api.Code); !is || c != api.ErrArg {
			t.Errorf("%d: %#v", i, err)
		}
	}
}

func TestSoundBehindEachDelete(t *testing.T) { // P9.1, P9.2: each order, keys deleted in all orders
	for _, m := range all() {
		for _, many := range []int{0, 1, 2, m, m + 1, 3 * m, 12 * m, api.MaxPairs} {
			for i, q := range sequences(rising(many)) {
				if many == api.MaxPairs && (i+m)%4 > 0 { // each of them in some orders
					continue
				}
				t.Run(fmt.Sprintf("%d %d %s", m, many, q.name), func(t *testing.T) {
					t.Parallel()
					tr, held := filled(t, m, shuffled(rising(many)))
					if tr.Many != many || len(q.keys) != many {
						t.Fatalf("%d keys, %d pairs", len(q.keys), tr.Many)
					}
					high := tr.Height()
					seen := map[int]bool{high: true}
					for i, k := range q.keys {
						seen[deletes(t, tr, held, k).height()] = true
						if i < 20 || i%50 == 0 {
							held.gets(t, tr, q.keys...)
						}
					}
					isEmpty(t, tr)
					if len(seen) != high || many == api.MaxPairs && high < 3 {
						t.Fatalf("from height %d on: %v", high, seen)
					}
				})
			}
		}
	}
}

func TestOfTreesPutInAllWays(t *testing.T) { // P9.1, P9.2: emptied, and filled again
	for _, m := range all() {
		for i, q := range sequences(words(220)) {
			for j, r := range sequences(words(220)) {
				if (i+j+m)%3 > 0 {
					continue
				}
				t.Run(fmt.Sprintf("%d %s %s", m, q.name, r.name), func(t *testing.T) {
					t.Parallel()
					tr, held := filled(t, m, q.keys)
					for _, k := range r.keys {
						deletes(t, tr, held, k)
					}
					isEmpty(t, tr)
					held.gets(t, tr, q.keys...)
					puts(t, tr, held, q.keys...)
					held.held(t, tr)
					held.gets(t, tr, around(q.keys)...)
				})
			}
		}
	}
}

func TestAllOrdersOfSevenKeys(t *testing.T) { // P9.1, P9.2: trees of up to three heights
	t.Parallel()
	keys := rising(7)
	for _, m := range []int{3, 4, 5} {
		for _, q := range sequences(keys)[:2] {
			whole, all := filled(t, m, q.keys)
			for _, o := range orders(7) {
				tr, held := copied(whole, all)
				for _, i := range o {
					deletes(t, tr, held, keys[i])
				}
				isEmpty(t, tr)
			}
		}
	}
}

// orders is all orders of the numbers below k.
func orders(k int) [][]int {
	if k == 0 {
		return [][]int{nil}
	}
	var l [][]int
	for _, o := range orders(k - 1) {
		for at := range k {
			l = append(l, slices.Insert(slices.Clone(o), at, k-1))
		}
	}
	return l
}

func TestLeafOfAsManyAsMustBe(t *testing.T) { // P9.1: loses one, with neighbours of all kinds
	t.Parallel()
	for _, m := range all() {
		for _, sides := range neighbours(m) {
			for _, own := range []bool{false, true} {
				p := node(leaves(sides[0], m/2, sides[1])...)
				_, whole := built(t, m, p, own)
				for i := range whole.keys { // of all leaves, so that each one's first, and last, is among them
					tr, held := built(t, m, p, own)
					deletes(t, tr, held, whole.keys[i])
					held.gets(t, tr, whole.keys...)
					if i%5 > 0 {
						continue
					}
					for _, k := range slices.Concat(whole.keys[i:], whole.keys[:i]) {
						deletes(t, tr, held, k)
					}
					isEmpty(t, tr)
				}
			}
		}
	}
}

func TestLeafAmongMany(t *testing.T) { // P9.1: its neighbour isn't the node's first kid, or last one
	t.Parallel()
	for _, m := range all() {
		for _, sides := range neighbours(m) {
			p := node(slices.Concat(times(leaf(m), 2), leaves(sides[0], m/2, sides[1]), times(leaf(m/2), 1))...)
			if len(p.kids) > m+1 {
				p.kids = p.kids[:m+1]
			}
			_, whole := built(t, m, p, false)
			for i, k := range whole.keys {
				tr, held := built(t, m, p, i%2 > 0)
				deletes(t, tr, held, k)
				held.gets(t, tr, whole.keys...)
			}
		}
	}
}

func TestOtherNodeOfAsManyAsMustBe(t *testing.T) { // P9.1: loses one, with neighbours of all kinds
	for _, m := range all() {
		for _, sides := range neighbours(m) {
			t.Run(fmt.Sprint(m, sides), func(t *testing.T) {
				t.Parallel()
				p := node(inners(m, sides[0], m/2, sides[1])...)
				_, whole := built(t, m, p, false)
				half := m / 2
				for i := 0; i < len(whole.keys); i += half { // one of each leaf
					k := whole.keys[i+i/half%half]
					tr, held := built(t, m, p, i/half%2 > 0)
					deletes(t, tr, held, k)
					held.gets(t, tr, whole.keys...)
					if i/half%4 > 0 {
						continue
					}
					for _, k := range whole.keys[max(0, i-half):min(len(whole.keys), i+2*half)] {
						deletes(t, tr, held, k)
					}
				}
			})
		}
	}
}

func TestOtherNodeDeeper(t *testing.T) { // P9.1: one that is neither the root nor above leaves
	for _, m := range []int{3, 4, 5, 6, 7} {
		for _, sides := range neighbours(m) {
			t.Run(fmt.Sprint(m, sides), func(t *testing.T) {
				t.Parallel()
				var kids []plan
				for _, many := range []int{sides[0], m / 2, sides[1]} {
					if many > 0 {
						kids = append(kids, node(inners(m, slices.Repeat([]int{m / 2}, many+1)...)...))
					}
				}
				_, whole := built(t, m, node(kids...), false)
				for i := 0; i < len(whole.keys); i += m / 2 {
					tr, held := built(t, m, node(kids...), i/(m/2)%2 > 0)
					deletes(t, tr, held, whole.keys[i])
					held.gets(t, tr, whole.keys...)
				}
			})
		}
	}
}

func TestRootOfOneKid(t *testing.T) { // P9.1, P9.2: at each height, down to a leaf
	for _, m := range all() {
		for height := 2; ; height++ {
			if m/2*2*pow(m/2+1, height-2) > 600 {
				break
			}
			t.Run(fmt.Sprint(m, " ", height), func(t *testing.T) {
				t.Parallel()
				p := least(m, height)
				_, whole := built(t, m, p, false)
				for i, k := range whole.keys {
					if i > 40 && i%7 > 0 {
						continue
					}
					tr, held := built(t, m, p, i%2 > 0)
					if s := deletes(t, tr, held, k); s.height() != height-1 {
						t.Fatalf("height %d, not %d", s.height(), height-1)
					}
					held.gets(t, tr, whole.keys...)
				}
			})
		}
	}
}

func pow(base, e int) int {
	if e == 0 {
		return 1
	}
	return base * pow(base, e-1)
}

func TestFirstLeafAndLastOne(t *testing.T) { // P9.1: deleted from there, till little is left
	t.Parallel()
	for _, m := range all() {
		for _, last := range []bool{false, true} {
			tr, held := filled(t, m, shuffled(rising(300)))
			for len(held.keys) > 0 {
				k := held.keys[0]
				if last {
					k = held.keys[len(held.keys)-1]
				}
				s := deletes(t, tr, held, k)
				if tr.Leaf(nil) != s.leaves[0].number || tr.Leaf([]byte("~")) != s.leaves[len(s.leaves)-1].number {
					t.Fatalf("order %d: leaves %d, %d", m, tr.Leaf(nil), tr.Leaf([]byte("~")))
				}
			}
			isEmpty(t, tr)
		}
	}
}

func TestKeysThatAreNotThere(t *testing.T) { // P9.1: false, no error, and nothing is changed
	for _, m := range all() {
		for _, many := range []int{0, 1, m, m + 1, 60} {
			tr, held := filled(t, m, shuffled(rising(many)))
			for _, k := range around(rising(many)) {
				if _, is := held.vals[k]; !is {
					deletes(t, tr, held, k)
				}
			}
			for _, none := range [][]byte{nil, {}} {
				if was, err := prune.Delete(tr, none); was || err != nil {
					t.Fatalf("Delete(%v): %v, %v", none, was, err)
				}
			}
			if tr.Many != many {
				t.Fatalf("order %d: %d pairs", m, tr.Many)
			}
			held.held(t, tr)
			held.gets(t, tr, held.keys...)
		}
	}
}

func TestDeletedOnceMoreAndPutAnew(t *testing.T) { // P9.2
	for _, m := range all() {
		for _, many := range []int{1, m, m + 1, 80} {
			tr, held := filled(t, m, shuffled(rising(many)))
			for i, k := range shuffled(rising(many)) {
				deletes(t, tr, held, k)
				deletes(t, tr, held, k)
				if i%3 == 0 {
					continue
				}
				if fresh, err := tr.Put([]byte(k), []byte("anew")); !fresh || err != nil {
					t.Fatalf("Put(%q): %v, %v", k, fresh, err)
				}
				held.put(k, "anew")
				held.held(t, tr)
				held.gets(t, tr, k)
				if i%3 == 1 {
					deletes(t, tr, held, k)
				}
			}
			held.gets(t, tr, around(rising(many))...)
		}
	}
}

func TestKeysOfOtherNodes(t *testing.T) { // P9.1: one that is just the same as a pair's, and one that was
	t.Parallel()
	for _, m := range all() {
		tr, held := filled(t, m, shuffled(rising(200)))
		for round := 0; len(held.keys) > 2*m; round++ {
			seams := held.held(t, tr).seams
			if len(seams) == 0 {
				break
			}
			k := seams[round%len(seams)]
			deletes(t, tr, held, k)
			deletes(t, tr, held, k)
			held.gets(t, tr, around([]string{k})...)
			if round%4 == 0 { // the key stays away, and what is about it goes on
				deletes(t, tr, held, held.keys[round%len(held.keys)])
				continue
			}
			puts(t, tr, held, k)
			held.gets(t, tr, around([]string{k})...)
			at, _ := slices.BinarySearchFunc(held.keys, k, order)
			deletes(t, tr, held, held.keys[max(0, at-1)])
			deletes(t, tr, held, k)
		}
	}
}

func TestFullTreeTakesOneMore(t *testing.T) { // P9.1: Many goes by what is there
	for _, m := range all() {
		tr, held := filled(t, m, shuffled(rising(api.MaxPairs)))
		for _, k := range []string{number(10), number(5000), number(10000)} {
			if _, err := tr.Put([]byte("~"), nil); err != api.ErrFull {
				t.Fatalf("Put: %v", err)
			}
			deletes(t, tr, held, k)
			if fresh, err := tr.Put([]byte(k+"~"), nil); !fresh || err != nil {
				t.Fatalf("Put: %v, %v", fresh, err)
			}
			held.put(k+"~", "")
			held.held(t, tr)
		}
		if _, err := tr.Put([]byte("~"), nil); err != api.ErrFull {
			t.Fatalf("Put: %v", err)
		}
	}
}

func TestRangesThatMayNotBe(t *testing.T) { // P9.1: ErrArg, and nothing is changed
	for _, m := range all() {
		for _, many := range []int{0, 1, m + 1, 60} {
			tr, held := filled(t, m, shuffled(rising(many)))
			for _, r := range [][2]string{
				{"b", "a"}, {"a", "a"}, {number(30), number(20)}, {number(20), number(20)}, {"\x00", "\x00"}, {"~", "\x00"},
				{overA, ""}, {"", overA}, {overA, "b"}, {"", longZ + "z"}, {overA, longZ + "z"}, {longA, longA}, {longZ, longA},
				{"a\x00", "a"}, {strings.Repeat("k", 1<<12), ""}, {"", strings.Repeat("k", 1<<12)},
			} {
				clearsNot(t, tr, r[0], r[1])
			}
			held.held(t, tr)
			held.gets(t, tr, held.keys...)
		}
	}
}

func TestRanges(t *testing.T) { // P9.1, P9.2: from one end to another, ends that are keys and ones that aren't
	for _, m := range all() {
		for _, many := range []int{0, 1, m, m + 1, 90} {
			t.Run(fmt.Sprint(m, " ", many), func(t *testing.T) {
				t.Parallel()
				whole, all := filled(t, m, shuffled(rising(many)))
				for _, from := range ends(many) {
					for _, to := range ends(many) {
						tr, held := copied(whole, all)
						if to != "" && order(from, to) >= 0 {
							clearsNot(t, tr, from, to)
							continue
						}
						clears(t, tr, held, from, to)
						held.gets(t, tr, rising(many)...)
						clears(t, tr, held, from, to)
					}
				}
			})
		}
	}
}

// ends is where ranges may begin, or end, of so many rising keys.
func ends(many int) []string {
	l := []string{"", "\x00", "~", longA, strings.Repeat("\xff", 16)}
	for _, i := range []int{1, 2, many / 3, many / 2, many - 1, many} {
		l = append(l, number(10*i), number(10*i)+"\x00", number(10*i+5))
	}
	slices.SortFunc(l, order)
	return slices.Compact(l)
}

func TestRangesOfLeaves(t *testing.T) { // P9.1: none, one, some, or all of a leaf; and of many leaves
	t.Parallel()
	for _, m := range all() {
		tr, held := filled(t, m, shuffled(rising(100)))
		var seams []string // each leaf's least key
		for _, l := range held.held(t, tr).leaves {
			seams = append(seams, string(l.node.Pairs[0].Key))
		}
		seams = append(seams, "")
		for i, from := range seams[:len(seams)-1] {
			next := seams[i+1]
			for _, r := range [][2]string{
				{from, next},                                        // all of it
				{from, from + "\x00"},                               // the first one
				{from + "\x00", next},                               // all but that
				{from + "\x00", from + "5"},                         // none
				{before(held, next) + "\x00", next},                 // none, from one leaf to the next
				{before(held, next), next},                          // the last one
				{before(held, next), seams[min(i+2, len(seams)-1)]}, // that, and all of the next leaf
				{from, seams[min(i+3, len(seams)-1)]},               // all of some
				{before(held, from), seams[min(i+4, len(seams)-1)]}, // and one more ahead
				{from + "\x00", ""},
				{"", next},
			} {
				one, left := copied(tr, held)
				clears(t, one, left, r[0], r[1])
				left.gets(t, one, held.keys...)
			}
		}
	}
}

// before is the key ahead of one, or the last one ahead of no end.
func before(m *model, k string) string {
	if k == "" {
		return m.keys[len(m.keys)-1]
	}
	at, _ := slices.BinarySearchFunc(m.keys, k, order)
	return m.keys[max(0, at-1)]
}

func TestClearAll(t *testing.T) { // P9.1, P9.2
	t.Parallel()
	for _, m := range all() {
		for _, many := range []int{0, 1, m, m + 1, 100, api.MaxPairs} {
			for _, r := range [][2]string{{"", ""}, {"\x00", ""}, {"", "~"}, {number(10), ""}, {number(10), number(10*many + 11)}} {
				tr, held := filled(t, m, shuffled(rising(many)))
				clears(t, tr, held, r[0], r[1])
				isEmpty(t, tr)
				held.gets(t, tr, rising(many)...)
				puts(t, tr, held, shuffled(rising(m+1))...)
				held.held(t, tr)
				held.gets(t, tr, rising(m+1)...)
			}
		}
	}
}

func TestRangesByTurns(t *testing.T) { // P9.1, P9.2: of one tree, one behind the other
	t.Parallel()
	for _, m := range all() {
		tr, held := filled(t, m, shuffled(rising(api.MaxPairs)))
		draw := draws()
		for len(held.keys) > 0 {
			from := 10 * draw(api.MaxPairs+2)
			clears(t, tr, held, number(from+5*draw(2)), number(from+10+5*draw(60)))
			if len(held.keys) < 200 {
				clears(t, tr, held, held.keys[0], held.keys[0]+"\x00")
			}
		}
		isEmpty(t, tr)
	}
}

func TestKeysOfEachLength(t *testing.T) { // P9.1: 1 to MaxKey bytes, ends too
	t.Parallel()
	var keys []string
	for n := 1; n <= 16; n++ {
		for _, c := range []string{"\x00", "k", "\xff"} {
			keys = append(keys, strings.Repeat(c, n), strings.Repeat("k", n-1)+c)
		}
	}
	slices.SortFunc(keys, order)
	keys = slices.Compact(keys)
	for _, m := range all() {
		tr, held := filled(t, m, shuffled(keys))
		for _, k := range shuffled(keys) {
			deletes(t, tr, held, k)
		}
		isEmpty(t, tr)
		for i, from := range keys {
			puts(t, tr, held, keys...)
			if i+1 == len(keys) {
				clears(t, tr, held, from, "")
				continue
			}
			clears(t, tr, held, from, keys[min(i+1+i%9, len(keys)-1)])
			deletes(t, tr, held, keys[i/2])
		}
	}
}

func TestPutAndDeletedByTurns(t *testing.T) { // P9.1, P9.2: against a plain list; wrong ones, too
	for round := range 56 {
		t.Run(fmt.Sprint(round), func(t *testing.T) {
			t.Parallel()
			draw := draws()
			for range round {
				draw(2)
			}
			tr, held := empty(t, 3+round%14)
			pool := append(words(20+draw(300)), "", overA, longZ+"z")
			for i := range 700 {
				k := pool[draw(len(pool))]
				switch kind := (draw(8) + i/100%3*2) % 10; {
				case kind < 5 && k != "" && len(k) <= 16:
					puts(t, tr, held, k)
					held.held(t, tr)
				case kind == 9 && draw(4) == 0:
					from, to := k, pool[draw(len(pool))]
					if len(from) > 16 || len(to) > 16 || to != "" && order(from, to) >= 0 {
						clearsNot(t, tr, from, to)
					} else if to != "" {
						clears(t, tr, held, from, to)
					}
				default:
					deletes(t, tr, held, k)
				}
				held.gets(t, tr, k, pool[draw(len(pool))])
			}
			held.gets(t, tr, pool...)
			for _, k := range slices.Clone(held.keys) {
				deletes(t, tr, held, k)
			}
			isEmpty(t, tr)
		})
	}
}

func TestOneThatIsPutAndDeletedAtTheEdge(t *testing.T) { // P9.1: where a node is split, and two are one, each time
	for _, m := range all() {
		for many := range 4 * m {
			tr, held := filled(t, m, rising(many))
			for range 3 {
				for _, k := range []string{number(5), number(10*(many/2) + 5), "~"} {
					puts(t, tr, held, k)
					held.held(t, tr)
					deletes(t, tr, held, k)
				}
			}
			held.gets(t, tr, held.keys...)
		}
	}
}

func TestOneMemoryHandedInOften(t *testing.T) { // R2: a buffer that is written anew for each call
	for _, m := range all() {
		tr, held := filled(t, m, shuffled(rising(200)))
		b := make([]byte, 16)
		for i, k := range shuffled(rising(200)) {
			n := copy(b, k)
			if i%3 == 0 { // both ends are of one memory, too
				to := copy(b[n:], k+"9") + n
				want := held.clear(k, k+"9")
				if gone, err := prune.Clear(tr, api.Range{From: b[:n], To: b[n:to]}); gone != want || err != nil || string(b[:to]) != k+k+"9" {
					t.Fatalf("Clear(%q): %d, %v: %q", k, gone, err, b)
				}
			} else if was, err := prune.Delete(tr, b[:n]); was != held.drop(k) || err != nil || string(b[:n]) != k {
				t.Fatalf("Delete(%q): %v, %v: %q", k, was, err, b)
			}
			scribble(b)
			held.held(t, tr)
		}
		isEmpty(t, tr)
	}
}

func TestKeysOfTheTreesOwnPairs(t *testing.T) { // R2: what was told is handed in, and stays as it was told
	for _, m := range all() {
		tr, held := filled(t, m, shuffled(rising(90)))
		told, keys := tr.Pairs(), rising(90)
		for i, p := range told {
			if i%2 == 0 {
				if was, err := prune.Delete(tr, p.Key); !was || err != nil {
					t.Fatalf("Delete(%q): %v, %v", p.Key, was, err)
				}
			} else if gone, err := prune.Clear(tr, api.Range{From: p.Key, To: told[(i+1)%90].Key}); i < 89 && (gone != 1 || err != nil) {
				t.Fatalf("Clear(%q): %v, %v", p.Key, gone, err)
			}
			if i < 89 {
				held.drop(keys[i])
				held.held(t, tr)
			}
		}
		for i, p := range told {
			if string(p.Key) != keys[i] {
				t.Fatalf("pair %d: %q", i, p)
			}
		}
	}
}

func TestTreesAreApart(t *testing.T) { // the package keeps nothing
	var trees []*tree.Tree
	var helds []*model
	for _, m := range append(all(), all()...) {
		tr, held := filled(t, m, shuffled(rising(120)))
		trees, helds = append(trees, tr), append(helds, held)
	}
	for i, k := range shuffled(rising(120)) {
		for j, tr := range trees {
			if (i+j)%3 > 0 {
				deletes(t, tr, helds[j], k)
			}
		}
	}
	for j, tr := range trees {
		helds[j].held(t, tr)
		helds[j].gets(t, tr, rising(120)...)
	}
}

func TestSameCallsSameTree(t *testing.T) { // what is left hangs on what was called alone
	for _, m := range all() {
		var texts []string
		for range 2 {
			tr, held := filled(t, m, shuffled(rising(200)))
			for _, k := range shuffled(rising(200))[:80] {
				deletes(t, tr, held, k)
			}
			clears(t, tr, held, number(600), number(900))
			texts = append(texts, text(tr))
		}
		if texts[0] != texts[1] {
			t.Fatalf("order %d:\n%s\n%s", m, texts[0], texts[1])
		}
	}
}

func TestAllArguments(t *testing.T) { // P1, R3
	lists := [][]byte{nil, {}, {0}, {0xff}, []byte("a"), []byte(longA), []byte(overA), []byte(fullV), make([]byte, 1<<16)}
	for _, m := range all() {
		for _, from := range lists {
			for _, to := range lists {
				tr, held := filled(t, m, append(rising(20), "\x00", "a", longA, "\xff"))
				deletes(t, tr, held, string(from))
				if len(from) <= 16 && len(to) <= 16 && (len(to) == 0 || order(string(from), string(to)) < 0) {
					clears(t, tr, held, string(from), string(to))
				} else {
					clearsNot(t, tr, string(from), string(to))
				}
				for _, tr := range []*tree.Tree{nil, {}} { // a tree that no call made
					if was, err := prune.Delete(tr, from); was || err != api.ErrArg {
						t.Errorf("Delete of none: %v, %v", was, err)
					}
					if gone, err := prune.Clear(tr, api.Range{From: from, To: to}); gone != 0 || err != api.ErrArg {
						t.Errorf("Clear of none: %v, %v", gone, err)
					}
				}
			}
		}
	}
}

// firstKid is the root's first kid, or the root, if that is a leaf.
func firstKid(tr *tree.Tree) int {
	n, _ := tr.A.Get(tr.Root)
	return append(n.Kids, tr.Root)[0]
}

// harms is what others may do to a tree, whose fields are open to all.
func harms() []func(tr *tree.Tree) {
	set := func(n arena.Node, part int) func(tr *tree.Tree) {
		return func(tr *tree.Tree) {
			for i := range tr.A.Len() {
				if i%part == 0 {
					tr.A.Set(i, n)
				}
			}
		}
	}
	l := []func(tr *tree.Tree){
		func(tr *tree.Tree) { tr.Root = -1 },
		func(tr *tree.Tree) { tr.Root = math.MaxInt },
		func(tr *tree.Tree) { tr.Order = 0 },
		func(tr *tree.Tree) { tr.Order = 1 },
		func(tr *tree.Tree) { tr.Order = 2 },
		func(tr *tree.Tree) { tr.Order = math.MinInt },
		func(tr *tree.Tree) { tr.Order = math.MaxInt },
		func(tr *tree.Tree) { tr.Order = 16 },
		func(tr *tree.Tree) { tr.Many = math.MinInt },
		func(tr *tree.Tree) { tr.Many = math.MaxInt },
		func(tr *tree.Tree) { tr.Many = 0 },
		func(tr *tree.Tree) { tr.A = nil },
		func(tr *tree.Tree) { tr.A = arena.New() },
		func(tr *tree.Tree) { tr.A.Free(tr.Root) },
		func(tr *tree.Tree) { tr.A.Free(tr.Leaf(nil)) },
		func(tr *tree.Tree) { tr.Root = tr.Leaf(nil) },
		func(tr *tree.Tree) { tr.A.Set(tr.Leaf(nil), arena.Node{Leaf: true, Next: tr.Leaf(nil)}) },
		func(tr *tree.Tree) { tr.Root = tr.A.Make(arena.Node{Kids: []int{tr.Root}}) },
		func(tr *tree.Tree) { tr.A.Free(firstKid(tr)) },
		func(tr *tree.Tree) { tr.A.Set(firstKid(tr), arena.Node{Leaf: true, Next: -1}) },
		func(tr *tree.Tree) { // its neighbour has no kids to be cut between
			tr.A.Set(firstKid(tr), arena.Node{Keys: slices.Repeat([][]byte{{1}}, 100)})
		},
	}
	pairs := []api.Pair{{Key: []byte("b")}, {Key: []byte("a")}, {}}
	keys := [][]byte{[]byte("b"), nil, []byte("a"), []byte("c"), []byte("d")}
	for part := 1; part <= 3; part++ {
		for _, n := range []arena.Node{
			{},
			{Leaf: true, Next: -1},
			{Leaf: true, Pairs: pairs},
			{Leaf: true, Pairs: pairs, Keys: keys, Kids: []int{0, 0, 0, 0, 0, 0}, Next: 1},
			{Pairs: pairs, Keys: keys[:1], Kids: []int{0, 1}},
			{Keys: keys, Kids: []int{0, 1, 2, 0, 1, 2}},
			{Keys: keys, Kids: []int{0, 1}},
			{Keys: keys, Kids: []int{-1, 99, math.MinInt, math.MaxInt, -1, 99}},
			{Kids: []int{0}},
			{Kids: []int{2}},
			{Kids: []int{0, 1, 2, 3}},
		} {
			l = append(l, set(n, part))
		}
	}
	return l
}

func TestCallsEndWhateverOthersDid(t *testing.T) { // P1, R3
	for i, harm := range harms() {
		for _, many := range []int{0, 1, 2, 4, 40} {
			for _, k := range append(rising(many), "", "a", "b", "~", overA) {
				tr, _ := filled(t, 3, shuffled(rising(many)))
				harm(tr)
				for range 3 {
					if was, err := prune.Delete(tr, []byte(k)); was && err != nil {
						t.Errorf("harm %d: Delete(%q): %v, %v", i, k, was, err)
					}
				}
				if gone, err := prune.Clear(tr, api.Range{From: []byte(k), To: []byte(k + "~")}); gone != 0 && err != nil {
					t.Errorf("harm %d: Clear(%q): %v, %v", i, k, gone, err)
				}
				for _, k := range rising(many) {
					prune.Delete(tr, []byte(k))
				}
				prune.Clear(tr, api.Range{})
			}
		}
	}
}
