package arena_test

import (
	"bytes"
	"fmt"
	"math"
	"slices"
	"strconv"
	"strings"
	"testing"

	"garnet/api"
	"garnet/arena"
)

// text tells all of a node. Lists of no elements are alike in it, nil or not.
func text(n arena.Node) string {
	return fmt.Sprintf("%v %q %q %v %d", n.Leaf, n.Pairs, n.Keys, n.Kids, n.Next)
}

// node is a leaf without pairs, told from others by its Next.
func node(mark int) arena.Node { return arena.Node{Leaf: true, Next: mark} }

// leaf is a leaf, told by texts: a key and a value each.
func leaf(next int, texts ...string) arena.Node {
	n := arena.Node{Leaf: true, Next: next}
	for i := 0; i < len(texts); i += 2 {
		n.Pairs = append(n.Pairs, api.Pair{Key: []byte(texts[i]), Val: []byte(texts[i+1])})
	}
	return n
}

// inner is a node that is no leaf, told by its keys' texts and its kids.
func inner(keys string, kids ...int) arena.Node {
	n := arena.Node{Kids: kids}
	for _, k := range strings.Fields(keys) {
		n.Keys = append(n.Keys, []byte(k))
	}
	return n
}

// kind is a node, and what to call it.
type kind struct {
	name string
	n    arena.Node
}

// kinds is nodes of all kinds, new ones each time.
func kinds() []kind {
	long := strings.Repeat("l", 1<<12)
	var manyPairs, manyKeys []string
	var manyKids []int
	for i := range 200 {
		manyPairs = append(manyPairs, strconv.Itoa(1000+i), strconv.Itoa(i))
		manyKeys = append(manyKeys, strconv.Itoa(1000+i))
		manyKids = append(manyKids, i)
	}
	return []kind{
		{"a zero one", arena.Node{}},
		{"a leaf, else a zero one", arena.Node{Leaf: true}},
		{"a leaf without a next one", leaf(-1)},
		{"a leaf of no pairs, no nil", arena.Node{Leaf: true, Pairs: []api.Pair{}, Keys: [][]byte{}, Kids: []int{}, Next: -1}},
		{"a leaf of no pairs, room for some", arena.Node{Leaf: true, Pairs: make([]api.Pair, 0, 3), Next: 5}},
		{"a leaf of one pair", leaf(-1, "a", "1")},
		{"a leaf of one pair, a next one", leaf(3, "a", "1")},
		{"a leaf of three", leaf(2, "a", "1", "b", "", "c", "333")},
		{"a leaf of many", leaf(7, manyPairs...)},
		{"a leaf of a pair of nils", arena.Node{Leaf: true, Pairs: []api.Pair{{}}, Next: -1}},
		{"a leaf of pairs of no bytes", leaf(-1, "", "", "", "")},
		{"a leaf of bytes of all kinds", leaf(0, "\x00", "\xff", "\xff\xfe", "\x00\x00", "\x80", "é")},
		{"a leaf of pairs that don't rise", leaf(0, "b", "1", "a", "2", "b", "3")},
		{"a leaf of more than MaxKey and MaxVal", leaf(0, long, long)},
		{"a leaf without a next one, the other way", leaf(math.MinInt, "a", "1")},
		{"a leaf with a far next one", leaf(math.MaxInt, "a", "1")},
		{"another, of no keys and kids, no nil", arena.Node{Pairs: []api.Pair{}, Keys: [][]byte{}, Kids: []int{}}},
		{"another, of one kid", inner("", 4)},
		{"another, of one key", inner("m", 0, 1)},
		{"another, of three keys", inner("d m s", 3, 0, 2, 1)},
		{"another, of many", inner(strings.Join(manyKeys, " "), manyKids...)},
		{"another, of keys of no bytes", arena.Node{Keys: [][]byte{nil, {}, {0}}, Kids: []int{1, 1, 1, 1}}},
		{"another, of a long key", inner(long, 0, 1)},
		{"another, of kids that are no numbers", inner("m", -1, math.MinInt, math.MaxInt)},
		{"one of all", arena.Node{Leaf: true, Pairs: leaf(0, "a", "1").Pairs, Keys: inner("k l").Keys, Kids: []int{1, 2, 3}, Next: 9}},
		{"one of all, no leaf", arena.Node{Pairs: leaf(0, "a", "1").Pairs, Keys: inner("k l").Keys, Kids: []int{1, 2, 3}, Next: -1}},
	}
}

// wrong is numbers that an arena of so many numbers hasn't.
func wrong(many int) []int {
	return []int{-1, -2, -1000, math.MinInt, many, many + 1, many + 1000, 1 << 40, math.MaxInt}
}

func makes(t *testing.T, a *arena.Arena, n arena.Node, want int) {
	t.Helper()
	if got := a.Make(n); got != want {
		t.Fatalf("Make: %d, not %d", got, want)
	}
}

// has tells that a number's node is this one.
func has(t *testing.T, a *arena.Arena, i int, want arena.Node) {
	t.Helper()
	if got, is := a.Get(i); !is || text(got) != text(want) {
		t.Fatalf("Get(%d): %.200s, %v, not %.200s", i, text(got), is, text(want))
	}
}

// hasNot tells that there is no such node: by Get, and by which error Set and
// Free tell, by ==, for it is to be the Code itself.
func hasNot(t *testing.T, a *arena.Arena, i int) {
	t.Helper()
	if got, is := a.Get(i); is || text(got) != text(arena.Node{}) {
		t.Fatalf("Get(%d): %.200s, %v", i, text(got), is) // R3
	}
	if err := a.Set(i, leaf(-1, "wrong", "wrong")); err != api.ErrNone {
		t.Fatalf("Set(%d): %v", i, err)
	}
	if err := a.Free(i); err != api.ErrNone {
		t.Fatalf("Free(%d): %v", i, err)
	}
}

func sets(t *testing.T, a *arena.Arena, i int, n arena.Node) {
	t.Helper()
	if err := a.Set(i, n); err != nil {
		t.Fatalf("Set(%d): %v", i, err)
	}
}

func frees(t *testing.T, a *arena.Arena, l ...int) {
	t.Helper()
	for _, i := range l {
		if err := a.Free(i); err != nil {
			t.Fatalf("Free(%d): %v", i, err)
		}
	}
}

func counts(t *testing.T, a *arena.Arena, used, many int) {
	t.Helper()
	if a.Used() != used || a.Len() != many {
		t.Fatalf("Used %d, Len %d, not %d, %d", a.Used(), a.Len(), used, many)
	}
}

// arenaOf is an arena of so many nodes, each told by its own number.
func arenaOf(t *testing.T, many int) *arena.Arena {
	t.Helper()
	a := arena.New()
	for i := range many {
		makes(t, a, node(i), i)
	}
	return a
}

// draws is numbers that look like chance and are the same in each run.
func draws() func(k int) int {
	seed := uint64(1)
	return func(k int) int {
		seed = seed*6364136223846793005 + 1442695040888963407
		return int(seed>>33) % k
	}
}

// orders is all orders of the numbers below k.
func orders(k int) [][]int {
	if k == 0 {
		return [][]int{nil}
	}
	var l [][]int
	for _, o := range orders(k - 1) {
		for at := range k {
			l = append(l, slices.Insert(slices.Clone(o), at, k-1))
		}
	}
	return l
}

func TestNewIsEmpty(t *testing.T) { // P7.1
	a := arena.New()
	if a == nil {
		t.Fatal("nil")
	}
	counts(t, a, 0, 0)
	for range 2 { // the second time behind what was told no
		for _, i := range append(wrong(0), 0, 1, 2) {
			hasNot(t, a, i)
			counts(t, a, 0, 0)
		}
	}
	makes(t, a, node(9), 0)
	has(t, a, 0, node(9))
	counts(t, a, 1, 1)
}

func TestMakeFreeMake(t *testing.T) { // P7.1: the example
	a := arena.New()
	first := a.Make(leaf(-1, "a", "1"))
	counts(t, a, 1, 1)
	frees(t, a, first)
	counts(t, a, 0, 1)
	if second := a.Make(inner("m", 1, 2)); second != first || first != 0 {
		t.Errorf("%d, %d", first, second)
	}
	has(t, a, 0, inner("m", 1, 2))
	counts(t, a, 1, 1)
}

func TestNumbersRiseFromNoughtOn(t *testing.T) { // P7.1
	for _, many := range []int{0, 1, 2, 3, 17, 5000} {
		a := arena.New()
		for i := range many {
			counts(t, a, i, i)
			makes(t, a, node(i+7), i)
			counts(t, a, i+1, i+1)
		}
		for i := range many {
			has(t, a, i, node(i+7))
		}
		for _, i := range wrong(many) {
			hasNot(t, a, i)
		}
		counts(t, a, many, many)
	}
}

func TestMakeAndGetAllKinds(t *testing.T) { // P7.1
	one := arena.New()
	for i, k := range kinds() {
		t.Run(k.name, func(t *testing.T) {
			makes(t, one, k.n, i)
			has(t, one, i, kinds()[i].n)
			counts(t, one, i+1, i+1)
			a := arena.New()
			makes(t, a, k.n, 0)
			has(t, a, 0, kinds()[i].n)
			has(t, a, 0, kinds()[i].n) // looking takes nothing away
			counts(t, a, 1, 1)
		})
	}
	for i, k := range kinds() {
		has(t, one, i, k.n)
	}
}

func TestSetOfAllKindsOverAll(t *testing.T) { // P7.1: it is n, and nothing of what it was
	for i := range kinds() {
		for j, k := range kinds() {
			a := arena.New()
			makes(t, a, node(40), 0)
			makes(t, a, kinds()[i].n, 1)
			makes(t, a, node(42), 2)
			sets(t, a, 1, k.n)
			has(t, a, 1, kinds()[j].n)
			has(t, a, 0, node(40))
			has(t, a, 2, node(42))
			counts(t, a, 3, 3)
		}
	}
}

func TestMadeAnewIsOfTheNewNodeAlone(t *testing.T) { // P7.1
	for i := range kinds() {
		for j, k := range kinds() {
			a := arena.New()
			makes(t, a, kinds()[i].n, 0)
			frees(t, a, 0)
			hasNot(t, a, 0)
			makes(t, a, k.n, 0)
			has(t, a, 0, kinds()[j].n)
			sets(t, a, 0, kinds()[i].n)
			has(t, a, 0, kinds()[i].n)
			counts(t, a, 1, 1)
			frees(t, a, 0)
			hasNot(t, a, 0)
			counts(t, a, 0, 1)
		}
	}
}

func TestSetIsOfOneNumberAlone(t *testing.T) { // P7.1
	a := arenaOf(t, 5)
	for i := range 5 {
		sets(t, a, i, leaf(i, "k", strconv.Itoa(i)))
		for j := range 5 {
			want := node(j)
			if j <= i {
				want = leaf(j, "k", strconv.Itoa(j))
			}
			has(t, a, j, want)
		}
		counts(t, a, 5, 5)
	}
	makes(t, a, node(5), 5) // Set freed nothing, and made nothing
}

func TestFreeIsOfOneNumberAlone(t *testing.T) { // P7.1
	for at := range 5 {
		a := arenaOf(t, 5)
		frees(t, a, at)
		counts(t, a, 4, 5)
		for i := range 5 {
			if i == at {
				hasNot(t, a, i)
			} else {
				has(t, a, i, node(i))
			}
		}
		makes(t, a, node(50), at)
		makes(t, a, node(51), 5)
		counts(t, a, 6, 6)
	}
}

func TestFreedLastIsMadeFirst(t *testing.T) { // P7.1: each order of those freed, each number of them
	const many = 5
	for _, order := range orders(many) {
		for k := range many + 1 {
			a := arenaOf(t, many)
			for i, x := range order[:k] {
				frees(t, a, x)
				counts(t, a, many-i-1, many)
			}
			for i := range k {
				makes(t, a, node(100+i), order[k-1-i])
				counts(t, a, many-k+i+1, many)
			}
			makes(t, a, node(200), many) // none is free: the next number
			for i, x := range order {
				want := node(x)
				if i < k {
					want = node(100 + k - 1 - i)
				}
				has(t, a, x, want)
			}
			counts(t, a, many+1, many+1)
		}
	}
}

func TestFreedBetweenMaking(t *testing.T) { // P7.1: the last one of all that are free now
	a := arenaOf(t, 6)
	frees(t, a, 4, 1)
	makes(t, a, node(10), 1)
	frees(t, a, 2)
	makes(t, a, node(11), 2)
	makes(t, a, node(12), 4)
	makes(t, a, node(13), 6)
	frees(t, a, 6, 0, 4)
	makes(t, a, node(14), 4)
	frees(t, a, 4) // anew the last one
	makes(t, a, node(15), 4)
	makes(t, a, node(16), 0)
	makes(t, a, node(17), 6)
	makes(t, a, node(18), 7)
	counts(t, a, 8, 8)
	for i, mark := range []int{16, 10, 11, 3, 15, 5, 17, 18} {
		has(t, a, i, node(mark))
	}
}

func TestSetMakesNoneTheLastFreed(t *testing.T) { // P7.1: what was set, or asked, changes no order
	a := arenaOf(t, 5)
	frees(t, a, 3, 0)
	sets(t, a, 1, node(11))
	hasNot(t, a, 3)
	hasNot(t, a, 7)
	has(t, a, 4, node(4))
	makes(t, a, node(20), 0)
	makes(t, a, node(21), 3)
	makes(t, a, node(22), 5)
}

func TestAllFreedAndAllMadeAnew(t *testing.T) { // P7.1, P7.3
	for _, many := range []int{1, 2, 3, 100} {
		a := arenaOf(t, many)
		for round := range 3 {
			for i := range many {
				frees(t, a, i)
				counts(t, a, many-i-1, many)
			}
			for _, i := range append(wrong(many), 0, many-1, many/2) {
				hasNot(t, a, i)
			}
			counts(t, a, 0, many)
			for i := range many {
				makes(t, a, node(1000*round+i), many-1-i)
				counts(t, a, i+1, many)
			}
			for i := range many {
				has(t, a, many-1-i, node(1000*round+i))
			}
			fromTheLastDown(t, a, many)
		}
	}
}

// fromTheLastDown frees all from the last one down, and makes them anew: then
// they come from 0 up.
func fromTheLastDown(t *testing.T, a *arena.Arena, many int) {
	t.Helper()
	for i := range many {
		frees(t, a, many-1-i)
	}
	for i := range many {
		makes(t, a, node(i), i)
	}
	counts(t, a, many, many)
}

func TestNoSuchNumber(t *testing.T) { // P7.1, P1, R3: nothing comes of wrong numbers
	for _, many := range []int{1, 2, 5} {
		a := arenaOf(t, many)
		for _, i := range wrong(many) {
			hasNot(t, a, i)
			counts(t, a, many, many)
		}
		for i := range many {
			has(t, a, i, node(i))
		}
		makes(t, a, node(many), many)
		has(t, a, many, node(many)) // one that was too great by one is there now
	}
}

func TestFreeOfOneThatIsFree(t *testing.T) { // P7.1, P7.3: it isn't free twice over
	a := arenaOf(t, 3)
	frees(t, a, 1, 2)
	for range 3 {
		hasNot(t, a, 1)
		hasNot(t, a, 2)
		counts(t, a, 1, 3)
	}
	makes(t, a, node(10), 2) // nor is it, by that, the one that was freed last
	makes(t, a, node(11), 1)
	makes(t, a, node(12), 3)
	counts(t, a, 4, 4)
	for i, mark := range []int{0, 11, 10, 12} {
		has(t, a, i, node(mark))
	}
}

func TestSetOfOneThatIsFree(t *testing.T) { // P7.1: nothing of it is seen when it is made anew
	a := arenaOf(t, 2)
	frees(t, a, 0)
	if err := a.Set(0, leaf(-1, "a", "1")); err != api.ErrNone {
		t.Errorf("%v", err)
	}
	hasNot(t, a, 0)
	counts(t, a, 1, 2)
	makes(t, a, arena.Node{}, 0)
	has(t, a, 0, arena.Node{})
	has(t, a, 1, node(1))
}

func TestFreedAndMadeAnewIsThere(t *testing.T) { // P7.1
	a := arenaOf(t, 3)
	for round := range 4 {
		frees(t, a, 1)
		hasNot(t, a, 1)
		counts(t, a, 2, 3)
		makes(t, a, node(10*round), 1)
		has(t, a, 1, node(10*round))
		sets(t, a, 1, inner("m", round))
		has(t, a, 1, inner("m", round))
		counts(t, a, 3, 3)
	}
}

func TestArenasAreApart(t *testing.T) { // P7.1, P7.2
	a, b := arena.New(), arena.New()
	makes(t, a, leaf(-1, "a", "1"), 0)
	makes(t, a, leaf(-1, "b", "2"), 1)
	counts(t, b, 0, 0)
	hasNot(t, b, 0)
	makes(t, b, inner("m", 1, 2), 0)
	has(t, a, 0, leaf(-1, "a", "1"))
	frees(t, a, 0)
	has(t, b, 0, inner("m", 1, 2))
	makes(t, b, node(1), 1) // what is free in a isn't in b
	sets(t, b, 1, node(2))
	has(t, a, 1, leaf(-1, "b", "2"))
	frees(t, b, 1, 0)
	counts(t, a, 1, 2)
	counts(t, b, 0, 2)
	makes(t, a, node(3), 0)
	hasNot(t, b, 0)

	from, _ := a.Get(1) // a node of one handed to the other
	makes(t, b, from, 0)
	sets(t, a, 1, node(4))
	spoil(from)
	has(t, b, 0, leaf(-1, "b", "2"))
	has(t, a, 1, node(4))
}

// roomy is these bytes, with others behind them: room that an append writes
// into.
func roomy(s string) []byte { return append(bytes.Repeat([]byte{'#'}, 40)[:0], s...) }

// roomyNode is a node of all that one may have, with room behind each list,
// where something lies too.
func roomyNode(isLeaf bool, next int, texts ...string) arena.Node {
	n := arena.Node{Leaf: isLeaf, Next: next}
	for i, s := range texts {
		n.Pairs = append(n.Pairs, api.Pair{Key: roomy(s), Val: roomy(s + "v")})
		n.Keys = append(n.Keys, roomy(s+"k"))
		n.Kids = append(n.Kids, i)
	}
	many := len(texts)
	n.Pairs = append(n.Pairs, api.Pair{Key: roomy("~"), Val: roomy("~")})[:many]
	n.Keys = append(n.Keys, roomy("~"))[:many]
	n.Kids = append(n.Kids, 77)[:many]
	return n
}

// wide is a node with all the room behind its lists as if it were of them.
func wide(n arena.Node) arena.Node {
	n.Pairs = slices.Clone(n.Pairs[:cap(n.Pairs)])
	for i, p := range n.Pairs {
		n.Pairs[i] = api.Pair{Key: p.Key[:cap(p.Key)], Val: p.Val[:cap(p.Val)]}
	}
	n.Keys = slices.Clone(n.Keys[:cap(n.Keys)])
	for i, k := range n.Keys {
		n.Keys[i] = k[:cap(k)]
	}
	n.Kids = n.Kids[:cap(n.Kids)]
	return n
}

func scribble(b []byte) {
	b = b[:cap(b)]
	for i := range b {
		b[i] = '!'
	}
}

// spoil writes over all that a node reaches: bytes first, then the lists.
func spoil(n arena.Node) {
	pairs, keys, kids := n.Pairs[:cap(n.Pairs)], n.Keys[:cap(n.Keys)], n.Kids[:cap(n.Kids)]
	for i := range pairs {
		scribble(pairs[i].Key)
		scribble(pairs[i].Val)
		pairs[i] = api.Pair{Key: []byte("!"), Val: []byte("!")}
	}
	for i := range keys {
		scribble(keys[i])
		keys[i] = []byte("!")
	}
	for i := range kids {
		kids[i] = -99
	}
}

// spoilBytes writes over the bytes alone, and lets the lists be.
func spoilBytes(n arena.Node) {
	for _, p := range n.Pairs {
		scribble(p.Key)
		scribble(p.Val)
	}
	for _, k := range n.Keys {
		scribble(k)
	}
}

// spoilLists writes over the lists alone, and lets the bytes be.
func spoilLists(n arena.Node) {
	for i := range n.Pairs {
		n.Pairs[i].Key, n.Pairs[i].Val = []byte("!"), nil
	}
	for i := range n.Keys {
		n.Keys[i] = nil
	}
	for i := range n.Kids {
		n.Kids[i] = -99
	}
}

// lengthen appends to each list and to the bytes of each, into what room
// there is.
func lengthen(n arena.Node) {
	for _, p := range n.Pairs {
		_ = append(p.Key, "!!!!!!!!"...)
		_ = append(p.Val, "!!!!!!!!"...)
	}
	for _, k := range n.Keys {
		_ = append(k, "!!!!!!!!"...)
	}
	_ = append(n.Pairs, api.Pair{Key: []byte("!")})
	_ = append(n.Keys, []byte("!"))
	_ = append(n.Kids, -99)
}

// harms is the ways in which a node may be changed.
func harms() []func(arena.Node) {
	return []func(arena.Node){spoil, spoilBytes, spoilLists, lengthen}
}

// nodes is nodes with room behind, new ones each time.
func nodes() []arena.Node {
	return []arena.Node{
		roomyNode(true, -1), roomyNode(true, -1, "a"), roomyNode(true, 3, "a", "b", "c"),
		roomyNode(false, 0, "m"), roomyNode(false, 5, "d", "m", "s"), roomyNode(true, -1, "", "a", ""),
	}
}

func TestWhatIsHandedInStays(t *testing.T) { // P7.2, R2
	for i, n := range nodes() {
		want := text(wide(nodes()[i]))
		a := arenaOf(t, 1)
		at := a.Make(n)
		a.Set(at, n)
		a.Set(-1, n)
		a.Set(9, n)
		got, _ := a.Get(at)
		a.Set(at, node(0))
		spoil(got)
		a.Free(at)
		a.Set(at, n)
		a.Make(n)
		if text(wide(n)) != want {
			t.Errorf("changed: %s, not %s", text(wide(n)), want)
		}
	}
}

func TestWhatWasHandedInIsNotKept(t *testing.T) { // P7.2, R2
	for i := range nodes() {
		for h, harm := range harms() {
			want := nodes()[i]
			made, set, anew := nodes()[i], nodes()[i], nodes()[i]
			a := arenaOf(t, 3)
			makes(t, a, made, 3)
			sets(t, a, 1, set)
			frees(t, a, 2)
			makes(t, a, anew, 2)
			for _, n := range []arena.Node{made, set, anew} {
				harm(n)
			}
			for _, at := range []int{3, 1, 2} {
				if got, is := a.Get(at); !is || text(got) != text(want) {
					t.Errorf("harm %d: node %d follows what was handed in: %s, not %s", h, at, text(got), text(want))
				}
			}
		}
	}
}

func TestWhatIsToldIsNew(t *testing.T) { // P7.2, R2
	for i := range nodes() {
		for h, harm := range harms() {
			want := text(nodes()[i])
			a := arena.New()
			a.Make(nodes()[i])
			one, _ := a.Get(0)
			two, _ := a.Get(0)
			harm(one)
			if got, is := a.Get(0); !is || text(got) != want {
				t.Errorf("harm %d: the arena follows what was told: %s, not %s", h, text(got), want)
			}
			if text(two) != want {
				t.Errorf("harm %d: what was told follows what was told: %s, not %s", h, text(two), want)
			}
		}
	}
}

func TestWhatWasToldStays(t *testing.T) { // P7.2: whatever becomes of the node
	for i := range nodes() {
		want := text(nodes()[i])
		a := arena.New()
		a.Make(nodes()[i])
		got, _ := a.Get(0)
		sets(t, a, 0, roomyNode(false, 8, "x", "y", "z", "u"))
		if text(got) != want {
			t.Errorf("behind Set: %s, not %s", text(got), want)
		}
		frees(t, a, 0)
		if text(got) != want {
			t.Errorf("behind Free: %s, not %s", text(got), want)
		}
		makes(t, a, roomyNode(true, 8, "x", "y", "z", "u"), 0)
		if text(got) != want {
			t.Errorf("behind Make: %s, not %s", text(got), want)
		}
	}
}

func TestOneNodeHandedInOften(t *testing.T) { // P7.2: no two nodes share memory
	for i, n := range nodes() {
		want := nodes()[i]
		a := arena.New()
		makes(t, a, n, 0)
		makes(t, a, n, 1)
		makes(t, a, node(0), 2)
		sets(t, a, 2, n)
		told, _ := a.Get(1) // and one that was told, handed in
		makes(t, a, told, 3)
		sets(t, a, 0, told)
		harm := inner("z", 9)
		for at := range 4 {
			sets(t, a, at, harm)
			for j := at + 1; j < 4; j++ {
				has(t, a, j, want)
			}
		}
	}
}

func TestSetOfItself(t *testing.T) { // P7.2: what was told, changed, and set again
	a := arena.New()
	makes(t, a, leaf(-1, "a", "1", "b", "2"), 0)
	n, _ := a.Get(0)
	n.Pairs = append(n.Pairs, api.Pair{Key: []byte("c"), Val: []byte("3")})
	n.Pairs[0].Val[0] = '9'
	has(t, a, 0, leaf(-1, "a", "1", "b", "2"))
	sets(t, a, 0, n)
	has(t, a, 0, leaf(-1, "a", "9", "b", "2", "c", "3"))
	n.Pairs[1].Key[0] = 'x'
	has(t, a, 0, leaf(-1, "a", "9", "b", "2", "c", "3"))
}

func TestNoTwoListsOfOneAnswerShareMemory(t *testing.T) { // P7.2: though they did when handed in
	b := []byte("abc")
	n := arena.Node{
		Leaf:  true,
		Pairs: []api.Pair{{Key: b, Val: b}, {Key: b[:2], Val: b[1:]}, {Key: b[:1], Val: b[:1]}},
		Keys:  [][]byte{b, b, b[:1]},
		Kids:  []int{1, 1},
	}
	a := arena.New()
	a.Make(n)
	a.Make(node(0))
	sets(t, a, 1, n)
	for at := range 2 {
		got, _ := a.Get(at)
		var lists [][]byte
		for _, p := range got.Pairs {
			lists = append(lists, p.Key, p.Val)
		}
		lists = append(lists, got.Keys...)
		want := []string{"abc", "abc", "ab", "bc", "a", "a", "abc", "abc", "a"}
		for i, l := range lists {
			if string(l) != want[i] {
				t.Fatalf("node %d: %q follows another one", at, l)
			}
			scribble(l)
		}
	}
	if string(b) != "abc" {
		t.Errorf("%q", b)
	}
	has(t, a, 0, n)
	has(t, a, 1, n)
}

// model is the chapter's words once more: which nodes are in use, and when
// those that are free were freed.
type model struct {
	used  map[int]string
	freed map[int]int
	clock int
	most  int // that ever were in use at one time
}

// next is the number of what is made next.
func (m *model) next() int {
	last := -1
	for i, at := range m.freed {
		if last < 0 || at > m.freed[last] {
			last = i
		}
	}
	if last < 0 {
		return len(m.used)
	}
	return last
}

func (m *model) make(n arena.Node) int {
	i := m.next()
	delete(m.freed, i)
	m.used[i] = text(n)
	m.most = max(m.most, len(m.used))
	return i
}

func (m *model) free(i int) error {
	if _, is := m.used[i]; !is {
		return api.ErrNone
	}
	delete(m.used, i)
	m.clock++
	m.freed[i] = m.clock
	return nil
}

func (m *model) set(i int, n arena.Node) error {
	if _, is := m.used[i]; !is {
		return api.ErrNone
	}
	m.used[i] = text(n)
	return nil
}

// held holds all of an arena against the model.
func (m *model) held(t *testing.T, a *arena.Arena) {
	t.Helper()
	counts(t, a, len(m.used), m.most) // P7.3: no more numbers than ever were in use
	for i := -2; i < m.most+2; i++ {
		want, is := m.used[i]
		if !is {
			want = text(arena.Node{})
		}
		if got, there := a.Get(i); there != is || text(got) != want {
			t.Fatalf("Get(%d): %s, %v, not %s, %v", i, text(got), there, want, is)
		}
	}
}

// some is a node of any kind.
func some(draw func(int) int, mark int) arena.Node {
	var texts []string
	for range draw(4) {
		texts = append(texts, strconv.Itoa(draw(100)))
	}
	switch draw(3) {
	case 0:
		return roomyNode(true, draw(9)-1, texts...)
	case 1:
		return inner(strings.Join(texts, " "), mark, draw(9))
	}
	return leaf(mark)
}

func TestAgainstModel(t *testing.T) { // P7.1, P7.2, P7.3
	draw := draws()
	for round := range 60 {
		a, m := arena.New(), &model{used: map[int]string{}, freed: map[int]int{}}
		for turn := range 150 {
			n, i := some(draw, turn), draw(m.most+4)-2
			switch draw(6 + round%3) {
			case 0, 1:
				makes(t, a, n, m.make(n))
			case 2:
				if got, want := a.Set(i, n), m.set(i, n); got != want {
					t.Fatalf("Set(%d): %v, not %v", i, got, want)
				}
			case 3, 4:
				if got, want := a.Free(i), m.free(i); got != want {
					t.Fatalf("Free(%d): %v, not %v", i, got, want)
				}
			case 5:
				n, _ = a.Get(i)
			default: // some arenas grow more than others
				makes(t, a, n, m.make(n))
			}
			spoil(n) // what was handed in, or told
			m.held(t, a)
		}
	}
}

func TestNoTwoInUseHaveOneNumber(t *testing.T) { // P7.3
	draw := draws()
	a, inUse, most := arena.New(), map[int]int{}, 0
	for turn := range 5000 {
		if len(inUse) > 0 && draw(2) == 0 {
			i := draw(most)
			_, is := inUse[i]
			if err := a.Free(i); (err == nil) != is {
				t.Fatalf("Free(%d): %v", i, err)
			}
			delete(inUse, i)
			continue
		}
		i := a.Make(node(turn))
		if was, is := inUse[i]; is {
			t.Fatalf("%d again, that is node %d", i, was)
		}
		inUse[i] = turn
		most = max(most, len(inUse))
		if i < 0 || i >= most || a.Len() != most || a.Used() != len(inUse) {
			t.Fatalf("%d, of %d: Len %d, Used %d of %d", i, most, a.Len(), a.Used(), len(inUse))
		}
	}
	for i, turn := range inUse {
		has(t, a, i, node(turn))
	}
}

func TestNumbersAreNoMoreThanWereInUse(t *testing.T) { // P7.3: however often one is made and freed
	a := arenaOf(t, 3)
	for turn := range 10000 {
		i := turn % 3
		frees(t, a, i)
		makes(t, a, node(turn), i)
	}
	counts(t, a, 3, 3)
	frees(t, a, 0, 1)
	makes(t, a, node(0), 1)
	frees(t, a, 2)
	makes(t, a, node(0), 2)
	counts(t, a, 2, 3)
}

func TestAllArguments(t *testing.T) { // P1, R3
	numbers := append(wrong(4), 0, 1, 2, 3)
	for _, k := range kinds() {
		a := arenaOf(t, 4)
		for _, i := range numbers {
			if err := a.Set(i, k.n); err != nil && err != api.ErrNone {
				t.Errorf("%s: Set(%d): %v", k.name, i, err)
			}
			a.Get(i)
			if err := a.Free(i); err != nil && err != api.ErrNone {
				t.Errorf("%s: Free(%d): %v", k.name, i, err)
			}
			if err := a.Set(i, k.n); err != api.ErrNone { // free now, or never there
				t.Errorf("%s: Set(%d) of none: %v", k.name, i, err)
			}
		}
		counts(t, a, 0, 4)
		makes(t, a, k.n, 3)
		has(t, a, 3, k.n)
	}
}
