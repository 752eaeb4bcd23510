package elide_test

import (
	"math"
	"slices"
	"strings"
	"testing"

	"garnet/api"
	"garnet/elide"
)

// Keys of MaxKey bytes and of one more, values of MaxVal bytes and of one more.
const (
	longA = "aaaaaaaaaaaaaaaa"
	overA = longA + "a"
	fullV = "vvvvvvvvvvvvvvvvvvvvvvvvvvvvvvvv"
	overV = fullV + "v"
)

// The kinds, by the numbers that DOC.md gives them.
const (
	get    = 1
	put    = 2
	del    = 3
	absent = 4
	swap   = 5
	scan   = 6
)

// single is the kinds that are of one key.
func single() []int { return []int{get, put, del, absent, swap} }

func kinds() []int { return append(single(), scan) }

// one is a request of one key: a key, and maybe a value, and an old one. Of
// OpScan it has all keys from that one on.
func one(kind int, k string, vals ...string) api.Req {
	r := api.Req{Client: 3, Seq: 7, Kind: kind, Key: []byte(k), Limit: 100}
	if len(vals) > 0 {
		r.Val = []byte(vals[0])
	}
	if len(vals) > 1 {
		r.Old = []byte(vals[1])
	}
	return r
}

// over is a scan.
func over(from, to string, limit int) api.Req {
	return api.Req{Client: 3, Seq: 7, Kind: scan, Key: []byte(from), To: []byte(to), Limit: limit}
}

// changed is a request of which something is unlike.
func changed(r api.Req, how func(r *api.Req)) api.Req {
	how(&r)
	return r
}

// draws is numbers that look like chance and are the same in each run.
func draws() func(k int) int {
	seed := uint64(1)
	return func(k int) int {
		seed = seed*6364136223846793005 + 1442695040888963407
		return int(seed>>33) % k
	}
}

// order is chapter 5's, byte by byte.
func order(a, b []byte) int {
	for i := 0; i < len(a) && i < len(b); i++ {
		if a[i] < b[i] {
			return -1
		}
		if a[i] > b[i] {
			return 1
		}
	}
	return min(1, max(-1, len(a)-len(b)))
}

// ahead tells whether, of a batch, the request at i stands ahead of that at j.
func ahead(l []api.Req, i, j int) bool {
	a, b := l[i], l[j]
	if c := order(a.Key, b.Key); c != 0 {
		return c < 0
	}
	if (a.Kind == scan) != (b.Kind == scan) {
		return b.Kind == scan
	}
	return i < j
}

// placesOf is a batch's order: each request's place is how many stand ahead.
func placesOf(l []api.Req) []int {
	places := make([]int, len(l))
	for i := range l {
		n := 0
		for j := range l {
			if ahead(l, j, i) {
				n++
			}
		}
		places[n] = i
	}
	return places
}

// groupsOf is a batch's groups.
func groupsOf(l []api.Req) [][]int {
	var groups [][]int
	for _, i := range placesOf(l) {
		if n := len(groups); n > 0 && l[i].Kind != scan {
			first := l[groups[n-1][0]]
			if first.Kind != scan && string(first.Key) == string(l[i].Key) {
				groups[n-1] = append(groups[n-1], i)
				continue
			}
		}
		groups = append(groups, []int{i})
	}
	return groups
}

func sameGroups(a, b [][]int) bool { return slices.EqualFunc(a, b, slices.Equal[[]int]) }

// checkBatch holds a batch's order and groups against what they should be.
func checkBatch(t *testing.T, l []api.Req, groups [][]int) {
	t.Helper()
	if got, want := elide.Order(l), slices.Concat(groups...); !slices.Equal(got, want) {
		t.Errorf("Order(%+v): %v, not %v", l, got, want)
	}
	if got := elide.Groups(l); !sameGroups(got, groups) {
		t.Errorf("Groups(%+v): %v, not %v", l, got, groups)
	}
}

// alone is a group of each place, in that order.
func alone(places ...int) [][]int {
	var groups [][]int
	for _, i := range places {
		groups = append(groups, []int{i})
	}
	return groups
}

// batch is requests, and their groups.
type batch struct {
	name   string
	l      []api.Req
	groups [][]int
}

// fewOf is batches of no request, of one, and of two.
func fewOf() []batch {
	l := []batch{
		{"none, nil", nil, nil},
		{"none", []api.Req{}, nil},
		{"two of one key", []api.Req{one(put, "a"), one(get, "a")}, [][]int{{0, 1}}},
		{"two that rise", []api.Req{one(put, "a"), one(get, "b")}, alone(0, 1)},
		{"two that fall", []api.Req{one(put, "b"), one(get, "a")}, alone(1, 0)},
		{"a scan ahead of another one", []api.Req{over("a", "", 9), one(get, "a")}, alone(1, 0)},
		{"a scan behind another one", []api.Req{one(get, "a"), over("a", "", 9)}, alone(0, 1)},
		{"a scan of a key that is less", []api.Req{one(get, "b"), over("a", "", 9)}, alone(1, 0)},
		{"a scan of a greater key", []api.Req{over("b", "", 9), one(get, "a")}, alone(1, 0)},
		{"two scans of one key", []api.Req{over("a", "", 9), over("a", "", 9)}, alone(0, 1)},
		{"two scans that fall", []api.Req{over("b", "", 9), over("a", "", 9)}, alone(1, 0)},
	}
	for _, kind := range kinds() {
		l = append(l, batch{"one alone", []api.Req{one(kind, "a")}, alone(0)})
	}
	return l
}

// manyOf is batches of more, each way they may stand.
func manyOf() []batch {
	return []batch{
		{"rise already", []api.Req{one(get, "a"), one(put, "b"), over("c", "", 9), one(del, "d")}, alone(0, 1, 2, 3)},
		{"fall", []api.Req{one(get, "d"), over("c", "", 9), one(put, "b"), one(del, "a")}, alone(3, 2, 1, 0)},
		{"neither", []api.Req{one(get, "c"), one(put, "a"), one(del, "d"), one(get, "b")}, alone(1, 3, 0, 2)},
		{"all alike", []api.Req{one(get, "a"), one(get, "a"), one(get, "a")}, [][]int{{0, 1, 2}}},
		{"all alike, and scans", []api.Req{over("a", "", 9), over("a", "", 9), over("a", "", 9)}, alone(0, 1, 2)},
		{"each kind of one key", []api.Req{one(scan, "a"), one(swap, "a"), one(absent, "a"), one(del, "a"), one(put, "a"), one(get, "a")}, [][]int{{1, 2, 3, 4, 5}, {0}}},
		{"two keys by turns", []api.Req{one(put, "b"), one(put, "a"), one(get, "b"), one(get, "a"), one(del, "b"), one(del, "a")}, [][]int{{1, 3, 5}, {0, 2, 4}}},
		{"scans ahead of others", []api.Req{over("a", "", 9), over("a", "", 9), one(get, "a"), one(put, "a")}, [][]int{{2, 3}, {0}, {1}}},
		{"scans between others", []api.Req{one(get, "a"), over("a", "", 9), over("a", "", 9), one(put, "a")}, [][]int{{0, 3}, {1}, {2}}},
		{"scans behind others", []api.Req{one(get, "a"), one(put, "a"), over("a", "", 9), over("a", "", 9)}, [][]int{{0, 1}, {2}, {3}}},
		{"scans by turns with others", []api.Req{over("a", "", 9), one(get, "a"), over("a", "", 9), one(put, "a"), over("a", "", 9)}, [][]int{{1, 3}, {0}, {2}, {4}}},
		{"scans of several keys beside others", []api.Req{over("b", "", 9), one(get, "c"), one(get, "b"), over("a", "", 9), one(get, "a"), over("c", "", 9), one(put, "b")}, [][]int{{4}, {3}, {2, 6}, {0}, {1}, {5}}},
		{"scans between keys, where no others are", []api.Req{over("b", "", 9), one(get, "c"), one(get, "a"), one(put, "c"), one(put, "a")}, [][]int{{2, 4}, {0}, {1, 3}}},
		{"scans with other ends stay as they stand", []api.Req{over("a", "z", 9), over("a", "b", 1), over("a", "", 5)}, alone(0, 1, 2)},
	}
}

// edgesOf is batches of keys, kinds and requests at the edges.
func edgesOf() []batch {
	kind := func(n int, k string) api.Req { return one(n, k) }
	unlike := func(k string, client, seq int, v, old string) api.Req {
		return api.Req{Client: client, Seq: seq, Kind: put, Key: []byte(k), Val: []byte(v), Old: []byte(old)}
	}
	return []batch{
		{"one key begins another one", []api.Req{one(get, "ab"), one(get, "a"), one(get, "a\x00"), one(get, "aa"), one(get, "a")}, [][]int{{1, 4}, {2}, {3}, {0}}},
		{"one key begins another one, and scans", []api.Req{one(get, "ab"), over("a", "", 9), one(get, "a"), over("ab", "", 9)}, alone(2, 1, 0, 3)},
		{"by bytes, not by lengths", []api.Req{one(get, "b"), one(get, "aaa"), one(get, "ab")}, alone(1, 2, 0)},
		{"bytes have no sign", []api.Req{one(get, "\x80"), one(get, "\xff"), one(get, "\x7f"), one(get, "\x00")}, alone(3, 2, 0, 1)},
		{"the key of no bytes", []api.Req{one(get, "\x00"), one(get, ""), one(put, "")}, [][]int{{1, 2}, {0}}},
		{"no key is the key of no bytes", []api.Req{one(get, ""), over("", "", 9), {Kind: put}, {Kind: scan}, one(del, "")}, [][]int{{0, 2, 4}, {1}, {3}}},
		{"of MaxKey bytes", []api.Req{one(get, longA), one(get, longA[:15]), one(get, longA)}, [][]int{{1}, {0, 2}}},
		{"of more than MaxKey bytes", []api.Req{one(get, longA+"b"), one(get, overA), one(get, longA), one(put, longA+"b"), one(put, overA)}, [][]int{{2}, {1, 4}, {0, 3}}},
		{"far more than MaxKey bytes", []api.Req{one(get, strings.Repeat("z", 5000)+"b"), one(get, strings.Repeat("z", 5000)+"a")}, alone(1, 0)},
		{"kinds that are none", []api.Req{kind(7, "a"), kind(scan, "a"), kind(0, "a"), kind(-1, "a"), kind(get, "a"), kind(-6, "a")}, [][]int{{0, 2, 3, 4, 5}, {1}}},
		{"the greatest kinds and the least", []api.Req{kind(scan, "b"), kind(math.MaxInt, "b"), kind(math.MinInt, "b"), kind(1<<32+6, "b"), kind(6-1<<32, "b"), kind(262, "b")}, [][]int{{1, 2, 3, 4, 5}, {0}}},
		{"clients, numbers and values play no part", []api.Req{unlike("a", 9, 9, "z", "z"), unlike("a", 1, 5, "y", "a"), unlike("a", 5, 1, "", ""), unlike("a", 0, 0, "x", "b")}, [][]int{{0, 1, 2, 3}}},
		{"what may not be", []api.Req{unlike("b", -1, 0, "v", ""), unlike("a", 0, -1, "v", ""), unlike("b", 0, 0, overV, ""), unlike("a", 0, 0, "", overV), {}}, [][]int{{4}, {1, 3}, {0, 2}}},
		{"scans that may not be", []api.Req{over("c", "b", 1), over("b", "b", 1), over("a", "", 0), over("c", "", 101), one(get, "c"), over(overA, "", -1)}, alone(2, 5, 1, 4, 0, 3)},
		{"To and Limit make no scan", []api.Req{{Kind: get, Key: []byte("a"), To: []byte("b"), Limit: 1}, over("a", "b", 1), {Kind: put, Key: []byte("a"), Limit: 1}}, [][]int{{0, 2}, {1}}},
	}
}

func TestOrderAndGroups(t *testing.T) { // P13.1
	for _, x := range slices.Concat(fewOf(), manyOf(), edgesOf()) {
		t.Run(x.name, func(t *testing.T) { checkBatch(t, x.l, x.groups) })
	}
}

func TestKindsHaveTheirNumbers(t *testing.T) { // DOC.md, Words
	if !slices.Equal(kinds(), []int{api.OpGet, api.OpPut, api.OpDelete, api.OpAbsent, api.OpSwap, api.OpScan}) {
		t.Error("the kinds have other numbers")
	}
	if api.MaxKey != len(longA) || api.MaxVal != len(fullV) || api.MaxBatch != 32 {
		t.Error("there are other limits")
	}
}

// sizes is how many requests batches have: none to MaxBatch, and more.
func sizes() []int { return []int{0, 1, 2, 3, 5, 8, 12, 13, 20, 31, 32, 33, 64, 200, 700} }

func TestBatchesOfOneKey(t *testing.T) { // P13.1: of each kind, and scans by turns with others
	for _, n := range sizes() {
		for _, kind := range kinds() {
			l, rising := make([]api.Req, n), make([]int, n)
			for i := range l {
				l[i], rising[i] = one(kind, "k"), i
			}
			groups := alone(rising...)
			if kind != scan && n > 0 {
				groups = [][]int{rising}
			}
			checkBatch(t, l, groups)
		}
		var l []api.Req
		var others []int
		for i := range n {
			l = append(l, one([]int{scan, get, scan, scan, put}[i%5], "k"))
			if l[i].Kind != scan {
				others = append(others, i)
			}
		}
		checkBatch(t, l, groupsOf(l))
		if got := elide.Groups(l); n > 1 && !slices.Equal(got[0], others) {
			t.Errorf("%d by turns: the first group is %v", n, got[0])
		}
	}
}

func TestBatchesOfUnlikeKeys(t *testing.T) { // P13.1: that rise, that fall, and that are mixed
	draw := draws()
	for _, n := range sizes() {
		rise, fall := make([]api.Req, n), make([]api.Req, n)
		var rising, falling []int
		for i := range n {
			r := one(kinds()[i%6], string([]byte{byte(i >> 8), byte(i)}))
			rise[i], fall[n-1-i] = r, r
			rising, falling = append(rising, i), append(falling, n-1-i)
		}
		checkBatch(t, rise, alone(rising...))
		checkBatch(t, fall, alone(falling...))
		var mixed []api.Req
		for _, r := range rise {
			mixed = slices.Insert(mixed, draw(len(mixed)+1), r)
		}
		checkBatch(t, mixed, groupsOf(mixed))
	}
}

// anyReq is a request of any kind, of few keys, that may be or not.
func anyReq(draw func(int) int, keys []string) api.Req {
	r := one(draw(8), keys[draw(len(keys))], []string{"", "v", overV}[draw(3)], []string{"", "v", overV}[draw(3)])
	r.Client, r.Seq, r.Limit, r.To = draw(5)-1, draw(40)-1, draw(103)-1, []byte(keys[draw(len(keys))])
	if draw(3) == 0 {
		r.Kind = scan
	}
	return r
}

func TestBatchesOfAllKinds(t *testing.T) { // P13.1
	draw := draws()
	for _, n := range sizes() {
		for _, keys := range [][]string{
			{"k"}, {"a", "b"}, {"", "a", "aa", "ab", "b", "\x00", "\xff"},
			{longA, overA, overA + "a", longA[:15], strings.Repeat("\xff", 17), "a", "b", "c", "d", "e", "f", "g"},
		} {
			for range 20 {
				l := make([]api.Req, n)
				for i := range l {
					l[i] = anyReq(draw, keys)
				}
				checkBatch(t, l, groupsOf(l))
			}
		}
	}
}

func TestGroupsAreTheOrder(t *testing.T) { // P13.1: each place just once, and no group is empty
	draw := draws()
	for range 500 {
		l := make([]api.Req, draw(40))
		for i := range l {
			l[i] = anyReq(draw, []string{"", "a", "ab", "b", overA})
		}
		places, groups := elide.Order(l), elide.Groups(l)
		if !slices.Equal(slices.Concat(groups...), places) {
			t.Fatalf("%v are not %v, of %+v", groups, places, l)
		}
		seen := make([]int, len(l))
		for _, i := range places {
			seen[i]++
		}
		if slices.ContainsFunc(seen, func(n int) bool { return n != 1 }) {
			t.Fatalf("%v, of %d requests", places, len(l))
		}
		for _, g := range groups {
			if len(g) == 0 {
				t.Fatalf("%v: one is empty", groups)
			}
			for _, i := range g {
				if len(g) > 1 && l[i].Kind == scan || string(l[i].Key) != string(l[g[0]].Key) {
					t.Fatalf("%v go together, of %+v", g, l)
				}
			}
		}
	}
}
