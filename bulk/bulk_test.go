package bulk_test

import (
	"fmt"
	"math"
	"runtime/debug"
	"slices"
	"strings"
	"testing"

	"garnet/api"
	"garnet/arena"
	"garnet/bulk"
	"garnet/prune"
	"garnet/tree"
)

// TestMain lets more memory be used ahead of each collection: the trees here
// are small and many, and most of the time would go into collecting them.
func TestMain(m *testing.M) {
	debug.SetGCPercent(800)
	m.Run()
}

// each runs a test with each order, and a tree made in each way, side by side.
func each(t *testing.T, list func(m int) []pair, test func(t *testing.T, s *subject)) {
	for _, m := range all() {
		for _, w := range ways() {
			t.Run(fmt.Sprint(m, " ", w.name), func(t *testing.T) {
				t.Parallel()
				l := list(m)
				s := w.make(t, m, l)
				if !slices.Equal(s.list, l) {
					t.Fatalf("the way makes %q, not %q", s.list, l)
				}
				s.held(t)
				test(t, s)
			})
		}
	}
}

// sizes is numbers of pairs: none, one, few, and those about one leaf's, two
// leaves', and a root's that has as many leaves as there may be.
func sizes(m int) []int {
	l := []int{0, 1, 2, 3, 60}
	for _, n := range []int{m / 2, m, 2 * m, 3 * m, m * (m + 1)} {
		l = append(l, n-1, n, n+1)
	}
	slices.Sort(l)
	return slices.Compact(l)
}

// ends is where to cut: at each key, just ahead of it, just behind, and
// outside of all.
func ends(list []pair) []string {
	l := []string{"\x00", "~", longA, longZ, strings.Repeat("\x00", 16), strings.Repeat("\xff", 16)}
	for _, p := range list {
		k, last := p.key, len(p.key)-1
		l = append(l, k, k+"\x00", k+"5", k[:last], k[:last]+string([]byte{k[last] - 1, 0xff}))
	}
	l = slices.DeleteFunc(l, func(k string) bool { return len(k) < 1 || len(k) > 16 })
	slices.SortFunc(l, order)
	return slices.Compact(l)
}

func TestExample(t *testing.T) { // the chapter's: a, b, c, cut at b: a; b, c
	each(t, func(int) []pair { return pairs([]string{"a", "b", "c"}) }, func(t *testing.T, s *subject) {
		low, high, err := bulk.Cut(s.tr, []byte("b"))
		if err != nil {
			t.Fatal(err)
		}
		one, two := low.Pairs(), high.Pairs()
		if len(one) != 1 || len(two) != 2 || string(one[0].Key) != "a" || string(two[0].Key) != "b" || string(two[1].Key) != "c" {
			t.Fatalf("%q; %q", one, two)
		}
		cut(t, s, "b")
	})
}

func TestLoadOfEachNumber(t *testing.T) { // P11.1: 0 to MaxPairs, and lived with about those at which it gets higher
	list := rising(api.MaxPairs)
	for _, m := range all() {
		t.Run(fmt.Sprint(m), func(t *testing.T) {
			t.Parallel()
			higher := []int{0, 1}
			for many, height := 0, 1; many <= api.MaxPairs; many++ {
				s := load(t, m, list[:many])
				if h := s.tr.Height(); h != height {
					height, higher = h, append(higher, many)
				}
			}
			if len(higher) < 4 {
				t.Fatalf("it never got so high: %v", higher)
			}
			for _, many := range higher {
				for n := max(0, many-2); n <= many+2; n++ {
					load(t, m, list[:n]).lives(t)
				}
			}
		})
	}
}

func TestLoadAboutOneLeaf(t *testing.T) { // P11.1: as many as it holds are one leaf; one fewer, one more, twice as many
	for _, m := range all() {
		for _, c := range []struct{ many, height, used int }{{0, 1, 1}, {1, 1, 1}, {m - 1, 1, 1}, {m, 1, 1}, {m + 1, 2, 3}} {
			s := load(t, m, rising(c.many))
			if s.tr.Height() != c.height || s.tr.A.Used() != c.used {
				t.Errorf("order %d, %d pairs: %s", m, c.many, text(s.tr))
			}
		}
		if s := load(t, m, rising(2*m)); s.tr.Height() < 2 {
			t.Errorf("order %d, twice: %s", m, text(s.tr))
		}
	}
}

func TestLoadOfNoPairs(t *testing.T) { // P11.1: like a new tree, of nil and of empty
	for _, m := range all() {
		for _, none := range [][]api.Pair{nil, {}, make([]api.Pair, 0, 9)} {
			tr, err := bulk.Load(m, none)
			if err != nil {
				t.Fatal(err)
			}
			s := &subject{tr: tr, m: m}
			s.held(t)
			n, is := tr.A.Get(tr.Root)
			if !is || !n.Leaf || n.Next != -1 || tr.Height() != 1 || tr.A.Used() != 1 {
				t.Fatalf("order %d: %s", m, text(tr))
			}
			s.lives(t)
		}
	}
}

func TestLoadOfWrongOrders(t *testing.T) { // P11.1, R1: ErrArg, whatever the pairs are
	bad := []pair{{"b", ""}, {"a", ""}}
	for _, m := range []int{2, 17, 1, 0, -1, -3, -16, 18, 1000, math.MinInt, math.MaxInt, 1 << 40} {
		for _, list := range [][]pair{nil, rising(1), rising(2), rising(17), rising(api.MaxPairs), rising(api.MaxPairs + 1), bad} {
			loadsNot(t, m, list, api.ErrArg)
		}
	}
}

// faults is what makes pairs no row by one of them alone, at a place.
func faults() []func(l []pair, i int) {
	next := func(i, many int) int { return min(i+1, many-1) }
	return []func(l []pair, i int){
		func(l []pair, i int) { l[i].key = "" },
		func(l []pair, i int) { l[i].key += strings.Repeat("0", 17-len(l[i].key)) }, // it rises still
		func(l []pair, i int) { l[i].key += strings.Repeat("0", 1<<12) },
		func(l []pair, i int) { l[i].val = overV },
		func(l []pair, i int) { l[i].val = strings.Repeat("v", 1<<12) },
		func(l []pair, i int) { l[i].key = l[max(i-1, 0)].key },
		func(l []pair, i int) { l[i].key = l[next(i, len(l))].key },
		func(l []pair, i int) { l[i] = l[max(i-1, 0)] },
		func(l []pair, i int) { l[i].key = l[next(i, len(l))].key + "\x00" },
		func(l []pair, i int) { l[i].key = l[max(i-1, 0)].key[:4] }, // the one ahead begins with it
		func(l []pair, i int) { l[i], l[next(i, len(l))] = l[next(i, len(l))], l[i] },
	}
}

// isRow is chapter 6's word of pairs.
func isRow(l []pair) bool {
	for i, p := range l {
		if len(p.key) < 1 || len(p.key) > 16 || len(p.val) > 32 || i > 0 && order(l[i-1].key, p.key) != -1 {
			return false
		}
	}
	return true
}

func TestLoadOfNoRow(t *testing.T) { // P11.1, R1: ErrArg, ahead of ErrFull
	for _, m := range all() {
		t.Run(fmt.Sprint(m), func(t *testing.T) {
			t.Parallel()
			for _, many := range []int{1, 2, 3, m, m + 1, 2 * m, 60, api.MaxPairs, api.MaxPairs + 1, 2 * api.MaxPairs} {
				for i, fault := range faults() {
					for _, at := range []int{0, 1, m - 1, m, many / 2, many - 2, many - 1} {
						list := rising(many)
						if at < 0 || at >= many {
							continue
						}
						fault(list, at)
						if !isRow(list) {
							loadsNot(t, m, list, api.ErrArg)
						} else if at > 0 && at < many-1 {
							t.Fatalf("fault %d at %d of %d is none", i, at, many)
						}
					}
				}
			}
		})
	}
}

func TestLoadOfPairsThatJustAreARow(t *testing.T) { // P11.1: keys of MaxKey bytes, values of MaxVal bytes
	var long []pair
	for i := range 300 {
		long = append(long, pair{number(i) + longA[:11], fullV})
	}
	for _, m := range all() {
		for _, list := range [][]pair{
			{{longA, fullV}}, {{"\x00", ""}}, {{"\xff", "\x00"}}, {{strings.Repeat("\x00", 16), ""}}, {{strings.Repeat("\xff", 16), fullV}},
			{{"a", fullV}, {"a\x00", ""}}, {{longA[:15], ""}, {longA, ""}, {longA[:15] + "b", ""}},
			{{"\x00", ""}, {strings.Repeat("\x00", 16), ""}, {longZ, fullV}, {strings.Repeat("\xff", 15), ""}, {strings.Repeat("\xff", 16), ""}},
			long, words(api.MaxPairs), words(api.MaxPairs)[:m+1],
		} {
			load(t, m, list)
		}
	}
}

func TestLoadOfMaxPairs(t *testing.T) { // P11.1: and of one more
	for _, m := range all() {
		t.Run(fmt.Sprint(m), func(t *testing.T) {
			t.Parallel()
			for _, list := range [][]pair{rising(3 * api.MaxPairs), words(3 * api.MaxPairs)} {
				s := load(t, m, list[:api.MaxPairs])
				if fresh, err := s.tr.Put([]byte("more"), nil); fresh || err != api.ErrFull {
					t.Fatalf("Put to MaxPairs: %v, %v", fresh, err)
				}
				s.held(t)
				for _, many := range []int{1, 2, m, api.MaxPairs, 2 * api.MaxPairs} {
					loadsNot(t, m, list[:api.MaxPairs+many], api.ErrFull)
				}
			}
		})
	}
}

func TestCutOfFew(t *testing.T) { // P11.2, P11.4: at all keys, and between
	for _, m := range all() {
		t.Run(fmt.Sprint(m), func(t *testing.T) {
			t.Parallel()
			for at, many := range sizes(m) {
				list := rising(many)
				if at%3 == 0 {
					list = words(many)
				}
				w := ways()[at%len(ways())]
				s := w.make(t, m, list)
				places := ends(list)
				for i, k := range places {
					if many < 30 || i%(many/20) == 0 {
						low, high := cut(t, s, k)
						join(t, low, high)
					}
				}
			}
		})
	}
}

func TestCutAtNodesKeys(t *testing.T) { // P11.2: at other nodes' keys, at leaves' first keys, and behind their last ones
	each(t, func(m int) []pair { return rising(9*m + 7) }, func(t *testing.T, s *subject) {
		sh := s.held(t)
		if len(sh.seams) < 3 || len(sh.firsts) < 4 {
			t.Fatalf("not high enough: %s", text(s.tr))
		}
		for _, k := range slices.Concat(sh.seams, sh.firsts) {
			cut(t, s, k)
			cut(t, s, k+"\x00")
		}
		for _, k := range sh.lasts {
			cut(t, s, k)
			cut(t, s, k+"\x00")
		}
	})
}

func TestCutAtKeysThatAreNoPairsAnyMore(t *testing.T) { // P11.2: of nodes that aren't leaves
	gone := 0
	for _, m := range all() {
		s := filled(t, m, rising(12*m))
		for _, k := range s.held(t).seams {
			s.drop(t, k)
		}
		for _, k := range s.held(t).seams {
			low, high := cut(t, s, k)
			join(t, low, high)
			if _, is := slices.BinarySearchFunc(s.list, k, byKey); !is {
				gone++
			}
		}
	}
	if gone == 0 {
		t.Fatal("there is no such key")
	}
}

func TestCutOutsideOfAll(t *testing.T) { // P11.2: below all, above all, at the least one, at the greatest one
	for _, many := range []int{0, 1, 2, 40, api.MaxPairs} {
		t.Run(fmt.Sprint(many), func(t *testing.T) {
			each(t, func(int) []pair { return rising(many) }, func(t *testing.T, s *subject) {
				for _, c := range []struct {
					k   string
					low int
				}{
					{"\x00", 0}, {number(9), 0}, {number(10), 0}, {number(10) + "\x00", min(1, many)},
					{number(10 * many), max(0, many-1)}, {number(10*many) + "\x00", many}, {"~", many}, {strings.Repeat("\xff", 16), many},
				} {
					low, high := cut(t, s, c.k)
					if len(low.list) != c.low || low.tr.Many != c.low || high.tr.Many != many-c.low {
						t.Fatalf("Cut(%q): %d and %d of %d", c.k, low.tr.Many, high.tr.Many, many)
					}
				}
			})
		})
	}
}

func TestCutOfMaxPairs(t *testing.T) { // P11.2, P11.4
	for i, list := range [][]pair{rising(api.MaxPairs), words(api.MaxPairs)} {
		t.Run(fmt.Sprint(i), func(t *testing.T) {
			places := ends(list)
			each(t, func(int) []pair { return list }, func(t *testing.T, s *subject) {
				for at := 3 * s.m; at < len(places); at += 397 {
					low, high := cut(t, s, places[at])
					join(t, low, high)
				}
			})
		})
	}
}

func TestCutOfNoTreeOrNoKey(t *testing.T) { // P11.2: ErrArg
	wrong := [][]byte{nil, {}, []byte(overA), []byte(overZ), make([]byte, 17), make([]byte, 1<<16)}
	right := [][]byte{{0}, []byte("a"), []byte(longA), []byte(number(20))}
	for _, none := range []*tree.Tree{nil, {}, {Order: 3, Many: 1}} { // those behind nil no call made
		for _, k := range slices.Concat(wrong, right) {
			cutsNot(t, none, k)
		}
	}
	each(t, func(m int) []pair { return rising(2*m + 1) }, func(t *testing.T, s *subject) {
		for _, k := range wrong {
			cutsNot(t, s.tr, k)
		}
		for _, k := range right {
			cut(t, s, string(k))
		}
		s.held(t)
	})
}

func TestJoinOfFew(t *testing.T) { // P11.2, P11.4: all sizes together, no pairs of either, too
	for _, m := range all() {
		t.Run(fmt.Sprint(m), func(t *testing.T) {
			t.Parallel()
			l, ways := sizes(m), ways()
			list := rising(2 * l[len(l)-1])
			for i, one := range l {
				a := ways[i%len(ways)].make(t, m, list[:one])
				for j, two := range l {
					b := ways[(i/len(ways)+j)%len(ways)].make(t, m, list[one:one+two])
					both := join(t, a, b)
					if two > 0 {
						cut(t, both, b.list[0].key)
					}
				}
			}
		})
	}
}

func TestJoinOfNoTree(t *testing.T) { // P11.2: ErrArg
	for _, m := range all() {
		for _, many := range []int{0, 1, m + 1} {
			tr := filled(t, m, rising(many)).tr
			for _, none := range []*tree.Tree{nil, {}, {Order: m}} { // those behind nil no call made
				joinsNot(t, none, tr, api.ErrArg)
				joinsNot(t, tr, none, api.ErrArg)
				joinsNot(t, none, none, api.ErrArg)
				joinsNot(t, nil, none, api.ErrArg)
			}
		}
	}
}

func TestJoinOfUnlikeOrders(t *testing.T) { // P11.2, R1: ErrArg, ahead of ErrRange and ErrFull
	list := rising(40)
	for _, m := range all() {
		for _, other := range all() {
			if m == other {
				continue
			}
			for _, c := range [][2][]pair{{list[:20], list[20:]}, {list[20:], list[:20]}, {list, list}, {nil, list}, {list, nil}, {nil, nil}} {
				joinsNot(t, load(t, m, c[0]).tr, load(t, other, c[1]).tr, api.ErrArg)
			}
		}
		great := rising(2 * api.MaxPairs)
		other := 3 + (m-2)%14
		joinsNot(t, load(t, m, great[:api.MaxPairs]).tr, load(t, other, great[api.MaxPairs:]).tr, api.ErrArg)
		joinsNot(t, load(t, m, great[:api.MaxPairs]).tr, load(t, other, great[:api.MaxPairs]).tr, api.ErrArg)
	}
}

func TestJoinWhereKeysMeet(t *testing.T) { // P11.2: a's greatest key, b's least one
	for _, c := range []struct {
		a, b string
		may  bool
	}{
		{"m", "m", false}, {"m", "l", false}, {"m", "m\x00", true}, {"m\x00", "m", false}, {"l\xff", "m", true},
		{"m", "l\xff", false}, {longA, longA, false}, {longA[:15], longA, true}, {longA, longA[:15], false},
		{longA, longA[:15] + "b", true}, {longA[:15] + "b", longA, false}, {"B", "\x80", true}, {"\x80", "B", false}, {"\x7f", "\x80", true},
	} {
		for _, m := range all() {
			for _, many := range []int{0, 1, m, 3*m + 1} { // pairs beside, far below and far above
				var low, high []pair
				for i := range many {
					low = append(low, pair{"\x00" + number(i), "v"})
					high = append(high, pair{"\xff" + number(i), "w"})
				}
				a := filled(t, m, append(low, pair{c.a, "v"}))
				b := filled(t, m, append([]pair{{c.b, "w"}}, high...))
				if c.may {
					join(t, a, b)
				} else {
					joinsNot(t, a.tr, b.tr, api.ErrRange)
				}
				if many > 0 {
					joinsNot(t, b.tr, a.tr, api.ErrRange)
				}
			}
		}
	}
}

func TestJoinOfKeysThatAreNotLess(t *testing.T) { // P11.2: all of them, one of them, some
	for _, m := range all() {
		list := rising(6 * m)
		var even, odd []pair
		for i, p := range list {
			if i%2 == 0 {
				even = append(even, p)
			} else {
				odd = append(odd, p)
			}
		}
		last := len(list) - 1
		for _, c := range [][2][]pair{
			{list[3*m:], list[:3*m]}, {even, odd}, {odd, even}, {list, list}, {list, list[last:]}, {list[:1], list}, {list, list[:1]},
			{list[last:], list[:1]}, {list[:2*m+1], list[2*m:]}, {{list[0], list[last]}, list[1:last]}, {list[1:last], {list[0], list[last]}},
		} {
			for _, w := range ways() {
				joinsNot(t, w.make(t, m, c[0]).tr, w.make(t, m, c[1]).tr, api.ErrRange)
			}
		}
	}
}

func TestJoinOfATreeAndItself(t *testing.T) { // P11.2: ErrRange, but without pairs
	for _, many := range []int{0, 1, 2, 30, api.MaxPairs} {
		t.Run(fmt.Sprint(many), func(t *testing.T) {
			each(t, func(int) []pair { return rising(many) }, func(t *testing.T, s *subject) {
				if many == 0 {
					join(t, s, s).lives(t)
				} else {
					joinsNot(t, s.tr, s.tr, api.ErrRange)
				}
			})
		})
	}
}

func TestJoinToMaxPairs(t *testing.T) { // P11.2, R1: just as many, one more, and ErrRange ahead of ErrFull
	list := rising(2 * api.MaxPairs)
	for _, m := range all() {
		t.Run(fmt.Sprint(m), func(t *testing.T) {
			t.Parallel()
			for _, one := range []int{0, 1, m, api.MaxPairs / 2, api.MaxPairs - 1, api.MaxPairs} {
				a := load(t, m, list[:one])
				join(t, a, load(t, m, list[one:api.MaxPairs]))
				for _, more := range []int{1, 2, one} {
					if more > 0 && more <= one {
						joinsNot(t, a.tr, load(t, m, list[one:api.MaxPairs+more]).tr, api.ErrFull)
						joinsNot(t, a.tr, load(t, m, list[one-1:api.MaxPairs]).tr, api.ErrRange)
						joinsNot(t, a.tr, load(t, m, list[one-more:api.MaxPairs]).tr, api.ErrRange)
						joinsNot(t, load(t, m, list[one:api.MaxPairs+more]).tr, a.tr, api.ErrRange)
					}
				}
			}
			full := filled(t, m, list[:api.MaxPairs])
			joinsNot(t, full.tr, filled(t, m, list[api.MaxPairs:]).tr, api.ErrFull)
			joinsNot(t, full.tr, full.tr, api.ErrRange)
		})
	}
}

func TestErrorsAreThemselves(t *testing.T) { // the chapter's line Errors
	list := rising(api.MaxPairs + 1)
	s, b := load(t, 3, list[:1]), load(t, 3, list[1:])
	_, order := bulk.Load(2, nil)
	_, noRow := bulk.Load(3, []api.Pair{{}})
	_, full := bulk.Load(3, hand(list).l)
	_, _, noTree := bulk.Cut(nil, []byte("a"))
	_, _, noKey := bulk.Cut(s.tr, nil)
	_, none := bulk.Join(nil, s.tr)
	_, wide := bulk.Join(s.tr, s.tr)
	_, both := bulk.Join(s.tr, b.tr)
	want := []api.Code{api.ErrArg, api.ErrArg, api.ErrFull, api.ErrArg, api.ErrArg, api.ErrArg, api.ErrRange, api.ErrFull}
	for i, err := range []error{order, noRow, full, noTree, noKey, none, wide, both} {
		if c, is := err.(api.Code); !is || c != want[i] {
			t.Errorf("%d: %#v, not %v", i, err, want[i])
		}
	}
}

func TestWhatIsToldIsLivedWith(t *testing.T) { // P11.1, P11.2: like one that was put pair by pair
	for _, m := range all() {
		t.Run(fmt.Sprint(m), func(t *testing.T) {
			t.Parallel()
			for i, many := range append(sizes(m), 400, api.MaxPairs) {
				list := rising(many)
				load(t, m, list).lives(t)
				low, high := cut(t, filled(t, m, list), number(10*many/(i%4+1)))
				both := join(t, low, high)
				low.lives(t)
				high.lives(t)
				both.lives(t)
			}
		})
	}
}

// used puts into a tree, deletes from it, and harms what is left: all that
// others may do to it.
func (s *subject) used(t *testing.T) {
	t.Helper()
	for i, p := range slices.Clone(s.list) {
		s.put(t, p.key, "other")
		if len(p.key) < 16 {
			s.put(t, p.key+"7", "new")
		}
		if i%2 == 0 {
			s.drop(t, p.key)
		}
	}
	s.put(t, "~~", "new")
	if _, err := prune.Clear(s.tr, api.Range{From: []byte(number(100))}); err != nil {
		t.Fatal(err)
	}
	for i := range s.tr.A.Len() {
		s.tr.A.Set(i, arena.Node{Leaf: true, Next: i})
		s.tr.A.Free(i)
	}
	s.tr.Root, s.tr.Order, s.tr.Many = 9, 9, 9
}

// usesEach makes trees anew for each of them, uses that one, and holds the
// others to be as they were, and to be lived with then.
func usesEach(t *testing.T, trees func() []*subject) {
	t.Helper()
	for used := range trees() {
		l := trees()
		l[used].used(t)
		l = slices.Delete(l, used, used+1)
		for _, s := range l {
			s.held(t)
			s.told(t, "", "")
		}
		for _, s := range l {
			s.lives(t)
		}
	}
}

func TestWhatIsToldIsNew(t *testing.T) { // P11.3: what is told, and what was handed in
	for _, m := range all() {
		t.Run(fmt.Sprint(m), func(t *testing.T) {
			t.Parallel()
			for _, many := range []int{0, 1, 2, m, m + 1, 40} {
				list := rising(2 * many)
				for _, k := range []string{"\x00", number(10*many + 10), number(5*many + 3), "~"} {
					usesEach(t, func() []*subject {
						s := filled(t, m, list)
						low, high := cut(t, s, k)
						return []*subject{s, low, high, join(t, low, high)}
					})
				}
				for _, at := range []int{0, many, len(list)} {
					usesEach(t, func() []*subject {
						a, b := filled(t, m, list[:at]), filled(t, m, list[at:])
						return []*subject{a, b, join(t, a, b)}
					})
				}
			}
		})
	}
}

func TestWhatIsLoadedStays(t *testing.T) { // P11.3: the pairs, whatever is done with the tree, and other trees of them
	for _, m := range all() {
		for _, many := range []int{1, 2, m, m + 1, 60} {
			h := hand(rising(many))
			var l []*subject
			for range 3 {
				tr, err := bulk.Load(m, h.l)
				if err != nil {
					t.Fatal(err)
				}
				l = append(l, &subject{tr, m, slices.Clone(h.want)})
			}
			apart(t, l[0].tr, l[1].tr, l[2].tr)
			l[0].used(t)
			l[1].lives(t)
			h.stays(t)
			l[2].held(t)
			h.scribble()
			l[2].lives(t)
		}
	}
}

func TestPairsOfOneMemory(t *testing.T) { // P11.3: keys and values that share it, with each other, too
	for _, m := range all() {
		b := []byte(strings.Repeat("abcdefghijklmnopqrstuvwxyz", 2))
		was := string(b)
		var l []api.Pair
		var want []pair
		for i := range 26 {
			p := api.Pair{Key: b[i : i+1+i%16], Val: b[i : i+26]}
			l, want = append(l, p), append(want, pair{string(p.Key), string(p.Val)})
		}
		tr, err := bulk.Load(m, l)
		if err != nil || string(b) != was {
			t.Fatalf("%v, %q", err, b)
		}
		scribble(b)
		s := &subject{tr, m, want}
		s.held(t)
		s.lives(t)
	}
}

func TestWhatWasToldIsHandedIn(t *testing.T) { // P11.3: pairs that a tree told, and keys that it has
	for _, m := range all() {
		s := load(t, m, words(80))
		again := &subject{m: m, list: slices.Clone(s.list)}
		stays(t, []*tree.Tree{s.tr}, func() {
			var err error
			if again.tr, err = bulk.Load(m, s.tr.Pairs()); err != nil {
				t.Fatal(err)
			}
			again.held(t)
		})
		for _, p := range s.tr.Pairs() {
			low, high, err := bulk.Cut(s.tr, p.Key)
			if err != nil || low.Many+high.Many != 80 || string(high.Pairs()[0].Key) != string(p.Key) {
				t.Fatalf("Cut(%q): %v, %s, %s", p.Key, err, text(low), text(high))
			}
		}
		s.used(t)
		again.lives(t)
	}
}

func TestCutInManyAndJoined(t *testing.T) { // P11.4: piece by piece, from either end
	for _, list := range [][]pair{rising(400), words(400), rising(7)} {
		each(t, func(int) []pair { return list }, func(t *testing.T, s *subject) {
			var pieces []*subject
			rest := s
			for i := 3; i < len(list); i += 2*s.m + 1 {
				var low *subject
				low, rest = cut(t, rest, list[i].key)
				pieces = append(pieces, low)
			}
			pieces = append(pieces, rest)
			one, other := pieces[0], rest
			for i := 1; i < len(pieces); i++ {
				one = join(t, one, pieces[i])
				other = join(t, pieces[len(pieces)-1-i], other)
			}
			if !slices.Equal(one.list, list) || !slices.Equal(other.list, list) {
				t.Fatalf("%q, and %q, not %q", one.list, other.list, list)
			}
			one.lives(t)
		})
	}
}

func TestAgainstPlainLists(t *testing.T) { // P11.1 to P11.4: some trees, cut and joined, put into and deleted from
	for round := range 42 {
		t.Run(fmt.Sprint(round), func(t *testing.T) {
			t.Parallel()
			draw, m := draws(round), 3+round%14
			pool := words(40 + draw(300))
			l := []*subject{load(t, m, pool), load(t, m, nil)}
			for range 120 {
				at := draw(len(l))
				k := pool[draw(len(pool))].key
				switch s := l[at]; draw(5) {
				case 0:
					low, high := cut(t, s, k)
					l = append(slices.Delete(l, at, at+1), low, high)
				case 1, 2:
					l = joinsOrNot(t, l, at, draw(len(l)))
				case 3:
					s.put(t, k, number(draw(1000)))
				default:
					s.drop(t, k)
				}
				for _, s := range l {
					s.held(t)
				}
				l = l[max(0, len(l)-9):]
			}
		})
	}
}

// joinsOrNot joins two of some, if that may be, in place of both.
func joinsOrNot(t *testing.T, l []*subject, at, other int) []*subject {
	t.Helper()
	a, b := l[at], l[other]
	if n := len(a.list); n > 0 && len(b.list) > 0 && order(a.list[n-1].key, b.list[0].key) != -1 {
		joinsNot(t, a.tr, b.tr, api.ErrRange)
		return l
	}
	both := join(t, a, b)
	l = slices.DeleteFunc(l, func(s *subject) bool { return s == a || s == b })
	return append(l, both)
}

func TestSameCallsSameTrees(t *testing.T) { // what is told hangs on what was handed in alone
	for _, m := range all() {
		list := words(200)
		var was []string
		for range 3 {
			s := load(t, m, list)
			low, high := cut(t, s, list[70].key)
			is := []string{text(s.tr), text(low.tr), text(high.tr), text(join(t, low, high).tr)}
			if was != nil && !slices.Equal(is, was) {
				t.Fatalf("order %d: %q, not %q", m, is, was)
			}
			was = is
		}
	}
}

func TestAllArguments(t *testing.T) { // P1, R3
	bytes := [][]byte{nil, {}, {0}, {0xff}, []byte("a"), []byte(longA), []byte(overA), []byte(fullV), []byte(overV), make([]byte, 1<<16)}
	trees := []*tree.Tree{nil, {}}
	for m := -20; m <= 40; m++ {
		for _, k := range bytes {
			for _, v := range bytes {
				row := len(k) >= 1 && len(k) <= 16 && len(v) <= 32
				for many, may := range []bool{true, row, false} {
					tr, err := bulk.Load(m, slices.Repeat([]api.Pair{{Key: k, Val: v}}, many))
					if may = may && m >= 3 && m <= 16; (err == nil) != may || (tr != nil) != may || err != nil && err != api.ErrArg {
						t.Fatalf("Load(%d) of %d, %.20q, %.20q: %v, %v", m, many, k, v, tr, err)
					}
					if tr != nil && len(trees) < 80 {
						sound(t, tr)
						trees = append(trees, tr)
					}
				}
			}
		}
	}
	for _, a := range trees {
		for _, k := range bytes {
			low, high, err := bulk.Cut(a, k)
			if may := a != nil && a.A != nil && len(k) >= 1 && len(k) <= 16; (err == nil) != may || (low != nil) != may || (high != nil) != may {
				t.Fatalf("Cut(%.20q) of %s: %v, %v, %v", k, text(a), low, high, err)
			}
		}
		for _, b := range trees {
			if tr, err := bulk.Join(a, b); (tr == nil) != (err != nil) {
				t.Fatalf("Join of %s and %s: %v, %v", text(a), text(b), tr, err)
			}
		}
	}
}

// harms is what others may do to a tree, whose fields are open to all.
func harms() []func(tr *tree.Tree) {
	l := []func(tr *tree.Tree){
		func(tr *tree.Tree) { tr.Root = -1 },
		func(tr *tree.Tree) { tr.Root = math.MaxInt },
		func(tr *tree.Tree) { tr.Order = math.MinInt },
		func(tr *tree.Tree) { tr.Order = 0 },
		func(tr *tree.Tree) { tr.Order = math.MaxInt },
		func(tr *tree.Tree) { tr.Many = math.MinInt },
		func(tr *tree.Tree) { tr.Many = math.MaxInt },
		func(tr *tree.Tree) { tr.A = nil },
		func(tr *tree.Tree) { tr.A = arena.New() },
		func(tr *tree.Tree) { tr.A.Free(tr.Root) },
		func(tr *tree.Tree) { tr.A.Free(tr.Leaf([]byte(number(200)))) },
		func(tr *tree.Tree) { tr.Root = tr.A.Make(arena.Node{Kids: []int{tr.Root}}) },
	}
	var many []api.Pair
	for _, p := range rising(api.MaxPairs + 1) {
		many = append(many, api.Pair{Key: []byte(p.key)})
	}
	some := []api.Pair{{Key: []byte("b")}, {Key: []byte("a")}, {}, {Key: []byte("b")}}
	keys := [][]byte{[]byte("b"), nil, []byte("a")}
	for part := 1; part <= 3; part++ {
		for _, n := range []arena.Node{
			{},
			{Leaf: true, Next: -1},
			{Leaf: true},
			{Leaf: true, Pairs: some, Next: -1},
			{Leaf: true, Pairs: some, Next: 1}, // leaves in a ring
			{Leaf: true, Pairs: some[3:], Next: 2},
			{Leaf: true, Pairs: many, Next: -1},
			{Leaf: true, Pairs: many, Next: math.MinInt},
			{Pairs: some, Keys: keys[:1], Kids: []int{0, 1}, Next: 1},
			{Keys: keys, Kids: []int{-1, 99, math.MinInt, math.MaxInt}},
			{Kids: []int{0}},
		} {
			l = append(l, func(tr *tree.Tree) {
				for i := range tr.A.Len() {
					if i%part == 0 {
						tr.A.Set(i, n)
					}
				}
			})
		}
	}
	return l
}

func TestCallsEndWhateverOthersDid(t *testing.T) { // P1, R3: and a tree that is told is sound, even then
	for i, harm := range harms() {
		for _, many := range []int{0, 1, 2, 4, 40} {
			harmed, good := filled(t, 3, rising(many)).tr, filled(t, 3, rising(many)).tr
			harm(harmed)
			for _, k := range []string{"\x00", "a", "b", number(10), number(200), "~", overA} {
				low, high, err := bulk.Cut(harmed, []byte(k))
				if (low == nil) != (err != nil) || (high == nil) != (err != nil) {
					t.Fatalf("harm %d: Cut(%q): %v, %v, %v", i, k, low, high, err)
				}
				if err == nil {
					sound(t, low)
					sound(t, high)
				}
			}
			for _, two := range [][2]*tree.Tree{{harmed, good}, {good, harmed}, {harmed, harmed}, {nil, harmed}, {harmed, nil}} {
				tr, err := bulk.Join(two[0], two[1])
				if (tr == nil) != (err != nil) {
					t.Fatalf("harm %d: Join: %v, %v", i, tr, err)
				}
				if tr != nil {
					sound(t, tr)
				}
			}
		}
	}
}
