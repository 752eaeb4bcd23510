package tree_test

import (
	"bytes"
	"fmt"
	"math"
	"slices"
	"strings"
	"testing"

	"garnet/api"
	"garnet/arena"
	"garnet/tree"
)

// Keys of MaxKey bytes and of one more, values of MaxVal bytes and of one more.
const (
	longA = "aaaaaaaaaaaaaaaa"
	longZ = "zzzzzzzzzzzzzzzz"
	overA = longA + "a"
	fullV = "vvvvvvvvvvvvvvvvvvvvvvvvvvvvvvvv"
	overV = fullV + "v"
)

// order is chapter 5's, byte by byte.
func order(a, b string) int {
	for i := 0; i < len(a) && i < len(b); i++ {
		if a[i] < b[i] {
			return -1
		}
		if a[i] > b[i] {
			return 1
		}
	}
	return min(1, max(-1, len(a)-len(b)))
}

// lies is chapter 5's word of a key in a range.
func lies(from, to, k string) bool {
	return order(k, from) >= 0 && (to == "" || order(to, k) > 0)
}

// draws is numbers that look like chance and are the same in each run.
func draws() func(k int) int {
	seed := uint64(1)
	return func(k int) int {
		seed = seed*6364136223846793005 + 1442695040888963407
		return int(seed>>33) % k
	}
}

// all is every order that there may be.
func all() []int {
	var l []int
	for m := 3; m <= 16; m++ {
		l = append(l, m)
	}
	return l
}

func newTree(t *testing.T, m int) *tree.Tree {
	t.Helper()
	tr, err := tree.New(m)
	if err != nil || tr == nil {
		t.Fatalf("New(%d): %v, %v", m, tr, err)
	}
	return tr
}

// number is a key that rises with a number.
func number(i int) string { return fmt.Sprintf("%05d", i) }

// sequence is keys in the order in which they are put.
type sequence struct {
	name string
	keys []string
}

// words is many keys, rising, by turns ones that others begin with and ones
// of no text: the least and the greatest byte, and those of MaxKey bytes.
func words(many int) []string {
	var l []string
	for i := 0; len(l) < many; i++ {
		k := []byte{"\x00\x01B\x7f\x80\xfe\xff"[i%7]}
		for rest := i / 7; rest > 0; rest /= 3 {
			k = append(k, "\x00m\xff"[rest%3])
		}
		if i%11 == 0 {
			k = append(k, bytes.Repeat(k[:1], 16-len(k))...)
		}
		l = append(l, string(k))
	}
	slices.SortFunc(l, order)
	return slices.Compact(l)
}

// sequences is the ways in which so many keys are put.
func sequences(many int) []sequence {
	var rising, inwards, stepping, twice []string
	for i := range many {
		rising = append(rising, number(i))
		inwards = append(inwards, number([]int{i / 2, many - 1 - i/2}[i%2]))
		stepping = append(stepping, number(i*7919%many))
	}
	falling, outwards := slices.Clone(rising), slices.Clone(inwards)
	slices.Reverse(falling)
	slices.Reverse(outwards)
	draw, any := draws(), words(many)
	for i := range any {
		j := i + draw(len(any)-i)
		any[i], any[j] = any[j], any[i]
	}
	for i := range many { // about as many that are there as that are new
		twice = append(twice, number(i), number(draw(i+1)))
	}
	return []sequence{
		{"rising", rising}, {"falling", falling}, {"inwards", inwards}, {"outwards", outwards},
		{"stepping", stepping}, {"any", any}, {"twice", twice},
	}
}

// leafAt is a leaf of a tree: its number, and the keys that it is there for.
type leafAt struct {
	number   int
	node     arena.Node
	from, to string
}

// shape is what a walk over all nodes of a tree comes to.
type shape struct {
	t      *tree.Tree
	leaves []leafAt
	depths []int // of the leaves
	seams  []string
	inner  int // how many nodes are no leaves
	seen   map[int]int
	fault  string
}

// wrong tells the first thing that is wrong.
func (s *shape) wrong(form string, args ...any) {
	if s.fault == "" {
		s.fault = fmt.Sprintf(form, args...)
	}
}

// walked is a tree's shape, or what makes it unsound: the chapter's list once
// more, point by point.
func walked(tr *tree.Tree) *shape {
	s := &shape{t: tr, seen: map[int]int{}}
	s.walk(tr.Root, "", "", 1)
	pairs := 0
	for i, l := range s.leaves {
		pairs += len(l.node.Pairs)
		if s.depths[i] != s.depths[0] {
			s.wrong("leaf %d has depth %d, not %d", l.number, s.depths[i], s.depths[0])
		}
		next := -1
		if i+1 < len(s.leaves) {
			next = s.leaves[i+1].number
		}
		if l.node.Next != next {
			s.wrong("behind leaf %d comes %d, not %d", l.number, l.node.Next, next)
		}
	}
	if tr.A.Used() != len(s.seen) {
		s.wrong("%d nodes are in use, and %d are the tree's", tr.A.Used(), len(s.seen))
	}
	if tr.Many != pairs {
		s.wrong("Many is %d, of %d pairs", tr.Many, pairs)
	}
	if got := tr.Height(); got != s.height() {
		s.wrong("Height: %d, not %d", got, s.height())
	}
	s.bounds(pairs)
	return s
}

func (s *shape) height() int { return s.depths[0] }

func (s *shape) walk(i int, from, to string, depth int) {
	n, is := s.t.A.Get(i)
	s.seen[i]++
	if !is || s.seen[i] > 1 || depth > 20 {
		s.wrong("node %d: %v, the %d. time", i, is, s.seen[i])
	}
	if s.fault != "" {
		s.leaves, s.depths = append(s.leaves, leafAt{number: i}), append(s.depths, depth)
		return
	}
	if n.Leaf {
		s.leaf(i, n, from, to)
		s.leaves = append(s.leaves, leafAt{i, n, from, to})
		s.depths = append(s.depths, depth)
		return
	}
	s.other(i, n, from, to)
	for at := 0; s.fault == "" && at < len(n.Kids); at++ {
		low, high := from, to
		if at > 0 {
			low = string(n.Keys[at-1])
		}
		if at < len(n.Keys) {
			high = string(n.Keys[at])
		}
		s.walk(n.Kids[at], low, high, depth+1)
	}
}

func (s *shape) leaf(i int, n arena.Node, from, to string) {
	m := s.t.Order
	if len(n.Pairs) > m || i != s.t.Root && len(n.Pairs) < m/2 {
		s.wrong("leaf %d has %d pairs, of order %d", i, len(n.Pairs), m)
	}
	if len(n.Keys) > 0 || len(n.Kids) > 0 {
		s.wrong("leaf %d has keys %q, kids %v", i, n.Keys, n.Kids)
	}
	for at, p := range n.Pairs {
		k := string(p.Key)
		if len(k) < 1 || len(k) > 16 || len(p.Val) > 32 || !lies(from, to, k) {
			s.wrong("leaf %d, from %q to %q: pair %q", i, from, to, p)
		}
		if at > 0 && order(string(n.Pairs[at-1].Key), k) != -1 {
			s.wrong("leaf %d: its pairs don't rise: %q", i, n.Pairs)
		}
	}
}

func (s *shape) other(i int, n arena.Node, from, to string) {
	m := s.t.Order
	s.inner++
	if len(n.Keys) > m || len(n.Keys) < 1 || i != s.t.Root && len(n.Keys) < m/2 {
		s.wrong("node %d has %d keys, of order %d", i, len(n.Keys), m)
	}
	if len(n.Kids) != len(n.Keys)+1 || len(n.Pairs) > 0 || n.Next != 0 {
		s.wrong("node %d has %d keys, kids %v, pairs %q, next %d", i, len(n.Keys), n.Kids, n.Pairs, n.Next)
	}
	for at, k := range n.Keys {
		s.seams = append(s.seams, string(k))
		if len(k) < 1 || len(k) > 16 || !lies(from, to, string(k)) {
			s.wrong("node %d, from %q to %q: key %q", i, from, to, k)
		}
		if at > 0 && order(string(n.Keys[at-1]), string(k)) != -1 {
			s.wrong("node %d: its keys don't rise: %q", i, n.Keys)
		}
	}
}

// bounds is P8.4's: a root that is no leaf has two kids at least, another node
// one more than m halved, a leaf as many pairs as m halved.
func (s *shape) bounds(pairs int) {
	half := s.t.Order / 2
	if most := max(1, 2*(pairs/half)); s.t.A.Used() > most {
		s.wrong("%d nodes, of %d pairs, order %d: %d at most", s.t.A.Used(), pairs, s.t.Order, most)
	}
	highest := 1
	for least := 2 * half; least <= pairs; least *= half + 1 {
		highest++
	}
	if s.height() > highest {
		s.wrong("height %d, of %d pairs, order %d: %d at most", s.height(), pairs, s.t.Order, highest)
	}
}

func sound(t *testing.T, tr *tree.Tree) *shape {
	t.Helper()
	s := walked(tr)
	if s.fault != "" {
		t.Fatal(s.fault)
	}
	return s
}

// model is what a tree is to have: keys, rising, and each one's value.
type model struct {
	keys []string
	vals map[string]string
}

func newModel() *model { return &model{vals: map[string]string{}} }

// put tells whether a key is new.
func (m *model) put(k, v string) bool {
	_, is := m.vals[k]
	if m.vals[k] = v; !is {
		at, _ := slices.BinarySearchFunc(m.keys, k, order)
		m.keys = slices.Insert(m.keys, at, k)
	}
	return !is
}

// are holds pairs against the model.
func (m *model) are(t *testing.T, l []api.Pair) {
	t.Helper()
	if len(l) != len(m.keys) {
		t.Fatalf("%d pairs, not %d", len(l), len(m.keys))
	}
	for i, p := range l {
		if string(p.Key) != m.keys[i] || string(p.Val) != m.vals[m.keys[i]] {
			t.Fatalf("pair %d: %q, not of %q, %q", i, p, m.keys[i], m.vals[m.keys[i]])
		}
	}
}

// held holds a tree against the model, all but Get and Leaf.
func (m *model) held(t *testing.T, tr *tree.Tree) *shape {
	t.Helper()
	s := sound(t, tr)
	m.are(t, tr.Pairs())
	return s
}

// gets holds Get against the model, of these keys.
func (m *model) gets(t *testing.T, tr *tree.Tree, keys ...string) {
	t.Helper()
	for _, k := range keys {
		v, is := m.vals[k]
		got, there := tr.Get([]byte(k))
		if there != is || string(got) != v {
			t.Fatalf("Get(%q): %q, %v, not %q, %v", k, got, there, v, is)
		}
	}
}

// finds holds Leaf against a shape, of these keys.
func (s *shape) finds(t *testing.T, keys ...string) {
	t.Helper()
	for _, k := range keys {
		got := s.t.Leaf([]byte(k))
		for _, l := range s.leaves {
			if lies(l.from, l.to, k) != (l.number == got) {
				t.Fatalf("Leaf(%q): %d, and leaf %d is there for %q to %q", k, got, l.number, l.from, l.to)
			}
		}
	}
}

// around is keys that stand just ahead of these, and just behind, or begin
// like them, and those that may be no keys.
func around(keys []string) []string {
	l := []string{"", "\x00", overA, longZ + "z", strings.Repeat("\xff", 17), strings.Repeat("k", 1<<12)}
	for _, k := range keys {
		last := len(k) - 1
		l = append(l, k, k[:last], k+"\x00", k+"\xff", k[:last]+string([]byte{k[last] - 1}))
	}
	return l
}

// roomy is a text's bytes with room behind them, where a careless append
// would write.
func roomy(s string) []byte { return append(bytes.Repeat([]byte{'#'}, 40)[:0], s...) }

func untouched(b []byte, s string) bool {
	return string(b) == s && string(b[:cap(b)]) == string(roomy(s)[:40])
}

// scribble writes over all that these bytes may reach.
func scribble(lists ...[]byte) {
	for _, b := range lists {
		b = b[:cap(b)]
		for i := range b {
			b[i] = '!'
		}
	}
}

// puts puts a pair, and holds what is told against the model. What was handed
// in is held to be as it was, and written over then: P8.3.
func puts(t *testing.T, tr *tree.Tree, m *model, k, v string) {
	t.Helper()
	key, val, want := roomy(k), roomy(v), m.put(k, v)
	if fresh, err := tr.Put(key, val); err != nil || fresh != want {
		t.Fatalf("Put(%q, %q): %v, %v, not %v", k, v, fresh, err, want)
	}
	if !untouched(key, k) || !untouched(val, v) {
		t.Fatalf("Put(%q, %q) changed them: %q, %q", k, v, key, val)
	}
	scribble(key, val)
}

// putsNot holds a Put to tell an error, by ==, for it is to be the Code
// itself, and to change nothing.
func putsNot(t *testing.T, tr *tree.Tree, k, v []byte, want api.Code) {
	t.Helper()
	was := text(tr)
	if fresh, err := tr.Put(k, v); fresh || err != want {
		t.Fatalf("Put(%.40q, %.40q): %v, %v, not %v", k, v, fresh, err, want)
	}
	if is := text(tr); is != was {
		t.Fatalf("Put(%.40q, %.40q) changed the tree:\n%s\n%s", k, v, was, is)
	}
}

// text tells all of a tree, node by node.
func text(tr *tree.Tree) string {
	var b strings.Builder
	fmt.Fprintf(&b, "root %d, order %d, many %d, used %d", tr.Root, tr.Order, tr.Many, tr.A.Used())
	for i := range tr.A.Len() {
		n, is := tr.A.Get(i)
		fmt.Fprintf(&b, "\n%d: %v %v %q %q %v %d", i, is, n.Leaf, n.Pairs, n.Keys, n.Kids, n.Next)
	}
	return b.String()
}

// filled is a tree of these keys, put one by one, each with its own value.
func filled(t *testing.T, order int, keys []string) (*tree.Tree, *model) {
	t.Helper()
	tr, m := newTree(t, order), newModel()
	for _, k := range keys {
		puts(t, tr, m, k, "v"+k)
	}
	return tr, m
}

// stepping is so many keys, of number(i), i in no order.
func stepping(many int) []string {
	var l []string
	for i := range many {
		l = append(l, number(i*7919%many))
	}
	return l
}

func TestNewTree(t *testing.T) { // P8.1: and the example
	for _, m := range all() {
		tr := newTree(t, m)
		if tr.Height() != 1 || tr.Order != m || tr.Many != 0 || len(tr.Pairs()) != 0 {
			t.Errorf("order %d: %s", m, text(tr))
		}
		n, is := tr.A.Get(tr.Root)
		if !is || !n.Leaf || len(n.Pairs) != 0 || n.Next != -1 || tr.A.Used() != 1 {
			t.Errorf("order %d: %s", m, text(tr))
		}
		s := newModel().held(t, tr)
		s.finds(t, around([]string{"a", longA})...)
		newModel().gets(t, tr, around([]string{"a", longA})...)
	}
}

func TestNewOfWrongOrders(t *testing.T) { // P8.1, R3
	for _, m := range []int{2, 1, 0, -1, -3, -16, math.MinInt, 17, 18, 1000, 1 << 40, math.MaxInt} {
		if tr, err := tree.New(m); tr != nil || err != api.ErrArg {
			t.Errorf("New(%d): %v, %v", m, tr, err)
		}
	}
}

func TestOnePair(t *testing.T) { // P8.1, P8.2
	for _, m := range all() {
		for _, k := range []string{"\x00", "a", "\xff", longA[:15], longA, strings.Repeat("\xff", 16), strings.Repeat("\x00", 16)} {
			for _, v := range []string{"", "v", "\x00", fullV[:31], fullV} {
				tr, held := newTree(t, m), newModel()
				puts(t, tr, held, k, v)
				s := held.held(t, tr)
				s.finds(t, around([]string{k})...)
				held.gets(t, tr, around([]string{k})...)
				if tr.Height() != 1 || tr.Many != 1 || tr.A.Used() != 1 {
					t.Errorf("order %d: %s", m, text(tr))
				}
			}
		}
	}
}

// kinds of splits, by the uppermost node that is split.
const (
	none      = "none"
	rootLeaf  = "the root that is a leaf"
	leafAlone = "a leaf behind a leaf"
	another   = "another node, and not the root"
	rootInner = "the root that isn't a leaf"
)

// split is which split a Put made, by what it added to nodes and height.
func split(nodes, height, more int) string {
	switch {
	case more > 0 && height == 1:
		return rootLeaf
	case more > 0:
		return rootInner
	case nodes > 1:
		return another
	case nodes == 1:
		return leafAlone
	}
	return none
}

func TestSoundBehindEachPut(t *testing.T) { // P8.1 to P8.4: each order, keys in all orders, splits of all kinds
	for _, m := range all() {
		for _, q := range sequences(api.MaxPairs) {
			t.Run(fmt.Sprintf("%d %s", m, q.name), func(t *testing.T) {
				t.Parallel()
				tr, held, seen := newTree(t, m), newModel(), map[string]int{}
				for i, k := range q.keys {
					used, height := tr.A.Used(), tr.Height()
					puts(t, tr, held, k, "v"+k)
					held.gets(t, tr, k)
					kind := split(tr.A.Used()-used, height, tr.Height()-height)
					seen[kind]++
					if i < 100 || i%25 == 0 || kind != none && kind != leafAlone {
						held.held(t, tr).finds(t, k, k+"\x00", "")
					}
				}
				for _, kind := range []string{none, rootLeaf, leafAlone, another, rootInner} {
					if seen[kind] == 0 {
						t.Errorf("not seen: %s: %v", kind, seen)
					}
				}
				held.held(t, tr)
				held.gets(t, tr, held.keys...)
			})
		}
	}
}

func TestAllKeysFewTimes(t *testing.T) { // P8.1, P8.2: each order of five keys, and one of them anew
	for _, o := range orders(5) {
		for again := range 6 {
			tr, held := newTree(t, 3), newModel()
			for _, i := range o {
				puts(t, tr, held, number(i), "1")
				held.held(t, tr)
			}
			puts(t, tr, held, number(again), "2") // there, or one more that is new
			s := held.held(t, tr)
			s.finds(t, around(held.keys)...)
			held.gets(t, tr, around(held.keys)...)
		}
	}
}

// orders is all orders of the numbers below k.
func orders(k int) [][]int {
	if k == 0 {
		return [][]int{nil}
	}
	var l [][]int
	for _, o := range orders(k - 1) {
		for at := range k {
			l = append(l, slices.Insert(slices.Clone(o), at, k-1))
		}
	}
	return l
}

func TestLeafOfAsManyAsMayBe(t *testing.T) { // P8.3: the root that is a leaf, and is split
	for _, m := range all() {
		for _, q := range sequences(m + 1) {
			if q.name == "twice" {
				continue
			}
			tr, held := newTree(t, m), newModel()
			for _, k := range q.keys[:m] {
				puts(t, tr, held, k, k)
				if s := held.held(t, tr); s.height() != 1 || len(s.leaves) != 1 {
					t.Fatalf("order %d, %d pairs: %s", m, tr.Many, text(tr))
				}
			}
			for _, k := range q.keys[:m] { // anew: there's room for that
				puts(t, tr, held, k, "again")
				if s := held.held(t, tr); s.height() != 1 {
					t.Fatalf("order %d, anew: %s", m, text(tr))
				}
			}
			puts(t, tr, held, q.keys[m], "one more")
			if s := held.held(t, tr); s.height() != 2 || len(s.leaves) != 2 || s.inner != 1 {
				t.Fatalf("order %d, %d pairs: %s", m, tr.Many, text(tr))
			}
		}
	}
}

func TestPutAnew(t *testing.T) { // P8.2, P8.4: another value, and the same one
	for _, m := range all() {
		for _, many := range []int{1, m, m + 1, 10 * m} {
			tr, held := filled(t, m, stepping(many))
			nodes := tr.A.Used()
			for i, k := range held.keys {
				was := text(tr)
				puts(t, tr, held, k, held.vals[k])
				if is := text(tr); is != was {
					t.Fatalf("order %d: %q put with the value that it had:\n%s\n%s", m, k, was, is)
				}
				puts(t, tr, held, k, []string{"", "w", fullV, "\x00"}[i%4])
				held.gets(t, tr, k)
				if tr.Many != many || tr.A.Used() != nodes {
					t.Fatalf("order %d: %q put anew: Many %d, %d nodes", m, k, tr.Many, tr.A.Used())
				}
			}
			held.held(t, tr)
			held.gets(t, tr, held.keys...)
		}
	}
}

func TestKeysOfOtherNodes(t *testing.T) { // P8.1, P8.2: one that is just the same is the right kid's
	for _, m := range all() {
		tr, held := filled(t, m, stepping(200))
		s := held.held(t, tr)
		if len(s.seams) == 0 {
			t.Fatalf("order %d: no node but leaves", m)
		}
		for _, k := range s.seams {
			s.finds(t, around([]string{k})...)
			held.gets(t, tr, around([]string{k})...)
			puts(t, tr, held, k, "seam")
			held.gets(t, tr, k)
		}
		s = held.held(t, tr)
		for _, k := range slices.Clone(s.seams) { // new ones at each side
			puts(t, tr, held, k+"\x00", "above")
			puts(t, tr, held, k[:4]+string([]byte{k[4] - 1, 0xff}), "below")
			held.gets(t, tr, around([]string{k})...)
			held.held(t, tr)
		}
	}
}

func TestBelowAllAndAboveAll(t *testing.T) { // P8.1, P8.2
	for _, m := range all() {
		tr, held := filled(t, m, stepping(300))
		for i := range 17 {
			puts(t, tr, held, strings.Repeat("\x00", 17-max(i, 1)), "low")
			puts(t, tr, held, strings.Repeat("\xff", max(i, 1)), "high")
			s := held.held(t, tr)
			if tr.Leaf([]byte(held.keys[0])) != s.leaves[0].number {
				t.Fatalf("order %d: the least key isn't in the first leaf", m)
			}
			s.finds(t, around([]string{held.keys[0], held.keys[len(held.keys)-1]})...)
			held.gets(t, tr, around([]string{held.keys[0], held.keys[len(held.keys)-1]})...)
		}
	}
}

func TestGetAndLeafOfWhatIsNotThere(t *testing.T) { // P8.1
	for _, m := range all() {
		for _, many := range []int{1, m, m + 1, 150} {
			var keys []string
			for _, k := range stepping(many) {
				keys = append(keys, k+"5")
			}
			tr, held := filled(t, m, keys)
			was, s := text(tr), held.held(t, tr)
			s.finds(t, around(held.keys)...)
			held.gets(t, tr, around(held.keys)...)
			for _, none := range [][]byte{nil, {}} {
				if got, is := tr.Get(none); got != nil || is {
					t.Errorf("order %d: Get(%v): %q, %v", m, none, got, is)
				}
				if got := tr.Leaf(none); got != s.leaves[0].number {
					t.Errorf("order %d: Leaf(%v): %d", m, none, got)
				}
			}
			if text(tr) != was {
				t.Errorf("order %d: looking changed it", m)
			}
		}
	}
}

func TestLeafHasTheKey(t *testing.T) { // P8.1
	for _, m := range all() {
		tr, held := filled(t, m, words(400))
		for _, k := range held.keys {
			n, is := tr.A.Get(tr.Leaf([]byte(k)))
			if !is || !n.Leaf || !slices.ContainsFunc(n.Pairs, func(p api.Pair) bool { return string(p.Key) == k }) {
				t.Fatalf("order %d: Leaf(%q): %q, %v", m, k, n.Pairs, is)
			}
		}
	}
}

func TestLeafWouldHaveTheKey(t *testing.T) { // P8.1: where it is told, it is when it is put
	tr, held := filled(t, 16, words(400))
	for _, k := range around(held.keys) {
		at := tr.Leaf([]byte(k))
		n, _ := tr.A.Get(at)
		if len(k) < 1 || len(k) > 16 || len(n.Pairs) == 16 || tr.Many == api.MaxPairs {
			continue
		}
		puts(t, tr, held, k, "")
		if got := tr.Leaf([]byte(k)); got != at {
			t.Fatalf("Leaf(%q): %d, and %d when it was put", k, at, got)
		}
	}
	held.held(t, tr)
}

func TestMaxPairs(t *testing.T) { // P8.2: ErrFull changes nothing, and what is there is put anew
	for _, m := range all() {
		for _, q := range sequences(api.MaxPairs)[3:6] {
			t.Run(fmt.Sprintf("%d %s", m, q.name), func(t *testing.T) {
				t.Parallel()
				tr, held := filled(t, m, q.keys)
				for i := 0; tr.Many < api.MaxPairs; i++ { // of words there are fewer
					puts(t, tr, held, "w"+number(i), "w")
				}
				for _, k := range []string{"\x00\x00\x00", number(500) + "5", "~", longA, strings.Repeat("\xff", 16)} {
					putsNot(t, tr, []byte(k), []byte("v"), api.ErrFull)
					putsNot(t, tr, []byte(k), nil, api.ErrFull)
					held.gets(t, tr, k)
				}
				for _, k := range held.keys {
					puts(t, tr, held, k, "w"+k)
				}
				if tr.Many != api.MaxPairs {
					t.Fatalf("Many: %d", tr.Many)
				}
				held.held(t, tr)
				held.gets(t, tr, held.keys...)
				putsNot(t, tr, []byte("~"), []byte("v"), api.ErrFull)
			})
		}
	}
}

func TestOneLessThanMaxPairs(t *testing.T) { // P8.2
	for _, m := range []int{3, 4, 16} {
		tr, held := filled(t, m, stepping(api.MaxPairs-1))
		puts(t, tr, held, "~", "the last one")
		held.held(t, tr)
		putsNot(t, tr, []byte("~~"), nil, api.ErrFull)
	}
}

func TestPutOfWhatMayNotBe(t *testing.T) { // P8.2, R1: ErrArg, and ahead of ErrFull
	huge := strings.Repeat("h", 1<<16)
	for _, m := range all() {
		for _, many := range []int{0, 1, m, m + 1, api.MaxPairs} {
			tr, held := filled(t, m, stepping(many))
			there := []byte("a")
			if many > 0 {
				there = []byte(held.keys[many/2])
			}
			for _, k := range []string{"", overA, longA + longA, strings.Repeat("\x00", 17), strings.Repeat("\xff", 17), huge} {
				for _, v := range []string{"", "v", fullV, overV} {
					putsNot(t, tr, []byte(k), []byte(v), api.ErrArg)
				}
			}
			putsNot(t, tr, nil, nil, api.ErrArg)
			for _, v := range []string{overV, fullV + fullV, huge} {
				putsNot(t, tr, there, []byte(v), api.ErrArg)
				putsNot(t, tr, []byte("new"), []byte(v), api.ErrArg)
			}
			held.held(t, tr)
		}
	}
}

func TestKeysAndValuesOfEachLength(t *testing.T) { // P8.2
	for _, m := range all() {
		tr, held := newTree(t, m), newModel()
		for n := 1; n <= 16; n++ {
			for size := 0; size <= 32; size++ {
				k := strings.Repeat("k", n-1) + string([]byte{byte(size)})
				puts(t, tr, held, k, strings.Repeat("\xfe", size))
			}
		}
		held.held(t, tr)
		held.gets(t, tr, held.keys...)
	}
}

func TestValuesOfNoBytes(t *testing.T) { // P8.1, P8.2
	tr := newTree(t, 3)
	for i, v := range [][]byte{nil, {}, nil, {}, nil, {}} {
		k := []byte(number(i % 4))
		if fresh, err := tr.Put(k, v); err != nil || fresh != (i < 4) {
			t.Fatalf("Put(%q, %v): %v, %v", k, v, fresh, err)
		}
		if got, is := tr.Get(k); len(got) != 0 || !is {
			t.Fatalf("Get(%q): %q, %v", k, got, is)
		}
		if fresh, err := tr.Put(k, []byte("w")); err != nil || fresh {
			t.Fatalf("Put(%q): %v, %v", k, fresh, err)
		}
		if got, is := tr.Get(k); string(got) != "w" || !is {
			t.Fatalf("Get(%q): %q, %v", k, got, is)
		}
		tr.Put(k, v)
		if got, is := tr.Get(k); len(got) != 0 || !is {
			t.Fatalf("Get(%q): %q, %v", k, got, is)
		}
		sound(t, tr)
	}
}

func TestOneMemoryHandedInOften(t *testing.T) { // P8.3: a buffer that is written anew for each Put
	for _, m := range all() {
		tr, held := newTree(t, m), newModel()
		b := make([]byte, 16)
		for _, k := range append(words(300), stepping(300)...) {
			n := copy(b, k)
			held.put(k, k) // key and value are of one memory, too
			if _, err := tr.Put(b[:n], b[:n]); err != nil || string(b[:n]) != k {
				t.Fatalf("Put(%q): %q, %v", k, b[:n], err)
			}
		}
		scribble(b)
		held.held(t, tr)
		held.gets(t, tr, held.keys...)
	}
}

func TestWhatIsAskedForStays(t *testing.T) { // P8.3, R2
	tr, held := filled(t, 3, stepping(100))
	for _, k := range around(held.keys[:20]) {
		key, want := append(make([]byte, 0, len(k)+8), k...), k
		tr.Get(key)
		tr.Leaf(key)
		if string(key) != want || string(key[:cap(key)]) != want+strings.Repeat("\x00", cap(key)-len(key)) {
			t.Fatalf("%q was changed: %q", k, key[:cap(key)])
		}
		scribble(key)
	}
	held.held(t, tr)
}

func TestWhatIsToldIsNew(t *testing.T) { // P8.3, R2
	for _, m := range all() {
		for _, many := range []int{1, m, m + 1, 100} {
			tr, held := filled(t, m, stepping(many))
			was := text(tr)
			for _, k := range held.keys {
				one, _ := tr.Get([]byte(k))
				two, _ := tr.Get([]byte(k))
				scribble(one)
				_ = append(two, "!!!!!!!!"...)
				if string(two) != held.vals[k] {
					t.Fatalf("order %d: what was told of %q follows what was told: %q", m, k, two)
				}
			}
			one, two := tr.Pairs(), tr.Pairs()
			for i, p := range one {
				scribble(p.Key, p.Val)
				one[i] = api.Pair{Key: []byte("!"), Val: []byte("!")}
			}
			_ = append(one, api.Pair{Key: []byte("!")})
			held.are(t, two)
			if is := text(tr); is != was {
				t.Fatalf("order %d: the tree follows what was told:\n%s\n%s", m, was, is)
			}
			held.held(t, tr)
			held.gets(t, tr, held.keys...)
		}
	}
}

func TestWhatWasToldStays(t *testing.T) { // P8.3: whatever is put then
	for _, m := range all() {
		tr, held := filled(t, m, stepping(60))
		told, vals := tr.Pairs(), map[string][]byte{}
		for _, k := range held.keys {
			vals[k], _ = tr.Get([]byte(k))
		}
		was := held
		held = newModel()
		for _, k := range was.keys {
			held.put(k, was.vals[k])
		}
		for _, k := range was.keys {
			puts(t, tr, held, k, "another")
			puts(t, tr, held, k+"5", "new")
		}
		was.are(t, told)
		for k, v := range vals {
			if string(v) != was.vals[k] {
				t.Fatalf("order %d: of %q was told %q, and now it is %q", m, k, was.vals[k], v)
			}
		}
		held.held(t, tr)
	}
}

func TestNoTwoListsOfOneAnswerShareMemory(t *testing.T) { // P8.3
	tr, held := filled(t, 3, stepping(50))
	for i, p := range tr.Pairs() {
		k := held.keys[i]
		if string(p.Key) != k || string(p.Val) != held.vals[k] {
			t.Fatalf("pair %d follows another one: %q", i, p)
		}
		scribble(p.Key)
		if string(p.Val) != held.vals[k] {
			t.Fatalf("pair %d: its value follows its key: %q", i, p)
		}
		scribble(p.Val)
	}
}

func TestTreesAreApart(t *testing.T) { // P8.1, P8.3
	var trees []*tree.Tree
	var helds []*model
	for _, m := range append(all(), all()...) {
		trees, helds = append(trees, newTree(t, m)), append(helds, newModel())
	}
	for i, k := range stepping(200) {
		for j, tr := range trees {
			if (i+j)%3 > 0 {
				puts(t, tr, helds[j], k, fmt.Sprint(i, " ", j))
			}
		}
	}
	for j, tr := range trees {
		helds[j].held(t, tr)
		helds[j].gets(t, tr, number(0), number(99), number(199))
		for _, other := range trees[:j] {
			if other.A == tr.A {
				t.Fatal("two trees have one arena")
			}
		}
	}
}

func TestErrorsAreThemselves(t *testing.T) { // the chapter's line Errors
	_, order := tree.New(2)
	tr, _ := filled(t, 3, stepping(api.MaxPairs))
	_, arg := tr.Put(nil, nil)
	_, full := tr.Put([]byte("new"), nil)
	for i, err := range []error{order, arg, full} {
		want := []api.Code{api.ErrArg, api.ErrArg, api.ErrFull}[i]
		if c, is := err.(api.Code); !is || c != want {
			t.Errorf("%d: %#v, not %v", i, err, want)
		}
	}
}

func TestAgainstModel(t *testing.T) { // P8.1 to P8.4: any keys, new ones and not, and wrong ones
	draw := draws()
	for round := range 56 {
		m := 3 + round%14
		tr, held := newTree(t, m), newModel()
		pool := append(words(20+draw(300)), "", overA, longZ+"z")
		vals := []string{"", "v", "\x00", fullV, fullV[:31] + "\xff", overV}
		for range 300 {
			k, v := pool[draw(len(pool))], vals[draw(len(vals))]
			if k == "" || len(k) > 16 || v == overV {
				putsNot(t, tr, []byte(k), []byte(v), api.ErrArg)
			} else {
				puts(t, tr, held, k, v)
			}
			held.gets(t, tr, k, pool[draw(len(pool))])
		}
		s := held.held(t, tr)
		s.finds(t, pool...)
		held.gets(t, tr, pool...)
	}
}

func TestSameCallsSameTree(t *testing.T) { // what is told hangs on what was put alone
	for _, m := range all() {
		a, _ := filled(t, m, words(300))
		b, _ := filled(t, m, words(300))
		if text(a) != text(b) {
			t.Fatalf("order %d:\n%s\n%s", m, text(a), text(b))
		}
	}
}

func TestAllArguments(t *testing.T) { // P1, R3
	for m := -20; m <= 40; m++ {
		tr, err := tree.New(m)
		if (err == nil) != (m >= 3 && m <= 16) || (tr == nil) != (err != nil) {
			t.Errorf("New(%d): %v, %v", m, tr, err)
		}
	}
	lists := [][]byte{nil, {}, {0}, {0xff}, []byte("a"), []byte(longA), []byte(overA), []byte(fullV), []byte(overV), make([]byte, 1<<16)}
	for _, m := range all() {
		tr := newTree(t, m)
		for _, k := range lists {
			for _, v := range lists {
				may := len(k) >= 1 && len(k) <= 16 && len(v) <= 32
				if fresh, err := tr.Put(k, v); (err == nil) != may || err != nil && fresh {
					t.Errorf("Put(%.20q, %.20q): %v, %v", k, v, fresh, err)
				}
			}
			if v, is := tr.Get(k); !is && v != nil {
				t.Errorf("Get(%.20q): %q, %v", k, v, is)
			}
			tr.Leaf(k)
			sound(t, tr)
		}
	}
}

// harms is what others may do to a tree, whose fields are open to all.
func harms() []func(tr *tree.Tree) {
	set := func(n arena.Node) func(tr *tree.Tree) {
		return func(tr *tree.Tree) {
			for i := range tr.A.Len() {
				tr.A.Set(i, n)
			}
		}
	}
	pairs := []api.Pair{{Key: []byte("b")}, {Key: []byte("a")}, {}}
	keys := [][]byte{[]byte("b"), nil, []byte("a"), []byte("c"), []byte("d")}
	return []func(tr *tree.Tree){
		func(tr *tree.Tree) { tr.Root = -1 },
		func(tr *tree.Tree) { tr.Root = math.MaxInt },
		func(tr *tree.Tree) { tr.Order = 0 },
		func(tr *tree.Tree) { tr.Order = math.MinInt },
		func(tr *tree.Tree) { tr.Order = math.MaxInt },
		func(tr *tree.Tree) { tr.Many = math.MinInt },
		func(tr *tree.Tree) { tr.Many = math.MaxInt },
		func(tr *tree.Tree) { tr.A = arena.New() },
		func(tr *tree.Tree) { tr.A.Free(tr.Root) },
		func(tr *tree.Tree) { tr.A.Free(tr.Leaf(nil)) },
		func(tr *tree.Tree) { tr.Root = tr.Leaf(nil) },
		set(arena.Node{}),
		set(arena.Node{Leaf: true, Pairs: pairs}),
		set(arena.Node{Leaf: true, Pairs: pairs, Keys: keys, Kids: []int{0, 0, 0, 0, 0, 0}, Next: 1}),
		set(arena.Node{Pairs: pairs, Keys: keys[:1], Kids: []int{0, 1}}),
		set(arena.Node{Keys: keys, Kids: []int{0, 1, 2, 0, 1, 2}}),
		set(arena.Node{Keys: keys, Kids: []int{0, 1}}),
		set(arena.Node{Keys: keys, Kids: []int{-1, 99, math.MinInt, math.MaxInt, -1, 99}}),
		set(arena.Node{Kids: []int{0}}),
		set(arena.Node{Kids: []int{0, 1, 2, 3}}),
	}
}

func TestCallsEndWhateverOthersDid(t *testing.T) { // P1
	for i, harm := range harms() {
		for _, many := range []int{0, 1, 4, 40} {
			tr, _ := filled(t, 3, stepping(many))
			harm(tr)
			for _, k := range []string{"", "a", "b", number(0), number(20), "~", overA} {
				for range 10 {
					tr.Put([]byte(k), []byte("v"))
				}
				if v, is := tr.Get([]byte(k)); !is && v != nil {
					t.Errorf("harm %d: Get(%q): %q", i, k, v)
				}
				tr.Leaf([]byte(k))
				tr.Height()
				tr.Pairs()
			}
		}
	}
}

func TestPutWhereOthersTookTheLeaf(t *testing.T) { // P1, R3: there is no leaf for it
	for _, many := range []int{0, 1, 40} {
		tr, _ := filled(t, 3, stepping(many))
		tr.A.Free(tr.Leaf([]byte("a")))
		putsNot(t, tr, []byte("a"), []byte("v"), api.ErrArg)
		tr.Root = -1
		putsNot(t, tr, []byte("a"), []byte("v"), api.ErrArg)
	}
}
