package omap_test

import (
	"bytes"
	"slices"
	"testing"

	"garnet/api"
	"garnet/omap"
)

// roomy is a text's bytes with room behind them, where a careless append
// would write.
func roomy(s string) []byte {
	return append(bytes.Repeat([]byte{'#'}, 40)[:0], s...)
}

// untouched tells whether these bytes, and the room behind, are as roomy made
// them.
func untouched(b []byte, s string) bool {
	return string(b) == s && string(b[:cap(b)]) == string(roomy(s)[:40])
}

// roomyPairs is the same pairs with room behind all of it, where pairs lie
// too.
func roomyPairs(from []api.Pair) []api.Pair {
	l := make([]api.Pair, 0, len(from)+3)
	for _, p := range from {
		l = append(l, api.Pair{Key: roomy(string(p.Key)), Val: roomy(string(p.Val))})
	}
	rest := l[len(l):cap(l)]
	for i := range rest {
		rest[i] = api.Pair{Key: roomy("~"), Val: roomy("~")}
	}
	return l
}

// untouchedPairs tells whether pairs, and the room behind, are as roomyPairs
// made them.
func untouchedPairs(l, from []api.Pair) bool {
	if len(l) != len(from) {
		return false
	}
	for i, p := range l[:cap(l)] {
		want := api.Pair{Key: []byte("~"), Val: []byte("~")}
		if i < len(l) {
			want = from[i]
		}
		if !untouched(p.Key, string(want.Key)) || !untouched(p.Val, string(want.Val)) {
			return false
		}
	}
	return true
}

// roomyReq is the same request with room behind all of it.
func roomyReq(r api.Req) api.Req {
	r.Key, r.Val = roomy(string(r.Key)), roomy(string(r.Val))
	r.Old, r.To = roomy(string(r.Old)), roomy(string(r.To))
	return r
}

// untouchedReq tells whether a request, and the room behind, is as roomyReq
// made it.
func untouchedReq(r, from api.Req) bool {
	return r.Client == from.Client && r.Seq == from.Seq && r.Kind == from.Kind && r.Limit == from.Limit &&
		untouched(r.Key, string(from.Key)) && untouched(r.Val, string(from.Val)) &&
		untouched(r.Old, string(from.Old)) && untouched(r.To, string(from.To))
}

func roomyReqs(from []api.Req) []api.Req {
	l := make([]api.Req, 0, len(from)+3)
	for _, r := range from {
		l = append(l, roomyReq(r))
	}
	rest := l[len(l):cap(l)]
	for i := range rest {
		rest[i] = roomyReq(api.Req{Kind: -1})
	}
	return l
}

func untouchedReqs(l, from []api.Req) bool {
	if len(l) != len(from) {
		return false
	}
	for i, r := range l[:cap(l)] {
		want := api.Req{Kind: -1}
		if i < len(l) {
			want = from[i]
		}
		if !untouchedReq(r, want) {
			return false
		}
	}
	return true
}

func scribble(lists ...[]byte) {
	for _, b := range lists {
		b = b[:cap(b)]
		for i := range b {
			b[i] = '!'
		}
	}
}

// spoil writes over all that pairs may reach: bytes, and the pairs.
func spoil(l []api.Pair) {
	l = l[:cap(l)]
	for i := range l {
		scribble(l[i].Key, l[i].Val)
		l[i] = api.Pair{Key: []byte("!"), Val: []byte("!")}
	}
}

func spoilReqs(l []api.Req) {
	l = l[:cap(l)]
	for i := range l {
		scribble(l[i].Key, l[i].Val, l[i].Old, l[i].To)
		l[i] = api.Req{Kind: get, Key: []byte("!")}
	}
}

func spoilAnswers(l []api.Res) {
	l = l[:cap(l)]
	for i := range l {
		scribble(l[i].Val)
		spoil(l[i].Rows)
		l[i] = api.Res{Code: -1, Found: true, Val: []byte("!")}
	}
}

// bytesOf is all bytes that were told, list by list.
func bytesOf(then []api.Pair, all []api.Res) [][]byte {
	var lists [][]byte
	add := func(l []api.Pair) {
		for _, p := range l {
			lists = append(lists, p.Key, p.Val)
		}
	}
	add(then)
	for _, res := range all {
		lists = append(lists, res.Val)
		add(res.Rows)
	}
	return lists
}

// pairLists is all lists of pairs that were told.
func pairLists(then []api.Pair, all []api.Res) [][]api.Pair {
	lists := [][]api.Pair{then}
	for _, res := range all {
		lists = append(lists, res.Rows)
	}
	return lists
}

// asks is requests, one behind the other, on the row b, d, f.
type asks struct {
	name string
	reqs []api.Req
	most int
}

func row() []api.Pair { return pairs("b", "1", "d", "22", "f", "333") }

// ways is each way in which one request may go, and many together.
func ways() []asks {
	alone := func(name string, r api.Req, most int) asks { return asks{name, []api.Req{r}, most} }
	l := []asks{
		{"no requests", nil, 9},
		alone("what may not be", one(put, overA, "v", "w"), 9),
		alone("a scan that may not be", over("d", "d", 9), 9),
		alone("a get of one that is there", one(get, "d"), 9),
		alone("a get of none", one(get, "c"), 9),
		alone("a put below all", one(put, "a", "v", "w"), 9),
		alone("a put between", one(put, "c", "v", "w"), 9),
		alone("a put above all", one(put, "g", "v", "w"), 9),
		alone("a put of the least one", one(put, "b", "v", "w"), 9),
		alone("a put of the one between", one(put, "d", "v", "w"), 9),
		alone("a put of the greatest one", one(put, "f", "v", "w"), 9),
		alone("a put without room", one(put, "c", "v", "w"), 3),
		alone("a delete of the least one", one(del, "b", "v", "w"), 9),
		alone("a delete of the one between", one(del, "d", "v", "w"), 9),
		alone("a delete of the greatest one", one(del, "f", "v", "w"), 9),
		alone("a delete of none", one(del, "c", "v", "w"), 9),
		alone("an absent of one that is there", one(absent, "d", "v", "w"), 9),
		alone("an absent of none", one(absent, "c", "v", "w"), 9),
		alone("an absent without room", one(absent, "c", "v", "w"), 3),
		alone("a swap of none", one(swap, "c", "v", "w"), 9),
		alone("a swap of what isn't Old", one(swap, "d", "v", "w"), 9),
		alone("a swap of what is Old", one(swap, "d", "v", "22"), 9),
		alone("a scan of all", over("", "", 9), 9),
		alone("a scan of some", over("c", "g", 9), 9),
		alone("a scan of the first ones", over("b", "", 2), 9),
		alone("a scan of none", over("", "b", 9), 9),
	}
	var many, twice []api.Req
	for _, x := range l {
		many = append(many, x.reqs...)
		twice = append(twice, x.reqs...)
		twice = append(twice, x.reqs...)
	}
	reads := []api.Req{one(get, "d"), one(get, "d"), over("", "", 9), over("", "", 9), one(get, "b")}
	return append(l, asks{"all of them", many, 4}, asks{"each of them twice", twice, 9}, asks{"what reads", reads, 9})
}

// doing is a way in which requests are done.
type doing func(l []api.Pair, reqs []api.Req, most int) ([]api.Pair, []api.Res)

// doOne does the only one of the requests by Do.
func doOne(l []api.Pair, reqs []api.Req, most int) ([]api.Pair, []api.Res) {
	then, res := omap.Do(l, reqs[0], most)
	return then, []api.Res{res}
}

// told is what a call tells.
type told struct {
	then []api.Pair
	all  []api.Res
}

func (w told) is(then []api.Pair, all []api.Res) bool {
	return alike(w.then, then) && slices.EqualFunc(w.all, all, same)
}

// byModel is what a plain map tells.
func byModel(x asks) told {
	m := modelOf(row())
	var w told
	for _, r := range x.reqs {
		w.all = append(w.all, m.do(r, x.most))
	}
	w.then = m.pairs()
	return w
}

// eachWay goes through all ways, by All and, where it is one request, by Do.
func eachWay(t *testing.T, f func(t *testing.T, x asks, call doing, want told)) {
	for _, x := range ways() {
		t.Run("All of "+x.name, func(t *testing.T) { f(t, x, omap.All, byModel(x)) })
		if len(x.reqs) == 1 {
			t.Run("Do of "+x.name, func(t *testing.T) { f(t, x, doOne, byModel(x)) })
		}
	}
}

func TestWhatIsHandedInStays(t *testing.T) { // P12.3
	eachWay(t, func(t *testing.T, x asks, call doing, want told) {
		l, reqs := roomyPairs(row()), roomyReqs(x.reqs)
		for _, r := range reqs {
			omap.May(r)
			omap.Reads(r)
		}
		if then, all := call(l, reqs, x.most); !want.is(then, all) {
			t.Errorf("%q, %+v", then, all)
		}
		if !untouchedPairs(l, row()) || !untouchedReqs(reqs, x.reqs) {
			t.Errorf("changed: %q, %+v", l, reqs)
		}
	})
}

func TestWhatIsToldDoesNotFollowWhatIsHandedIn(t *testing.T) { // P12.3, R2
	eachWay(t, func(t *testing.T, x asks, call doing, want told) {
		l, reqs := roomyPairs(row()), roomyReqs(x.reqs)
		then, all := call(l, reqs, x.most)
		spoil(l)
		if !want.is(then, all) {
			t.Errorf("it follows the pairs: %q, %+v", then, all)
		}
		spoilReqs(reqs)
		if !want.is(then, all) {
			t.Errorf("it follows the requests: %q, %+v", then, all)
		}
	})
}

func TestWhatIsHandedInDoesNotFollowWhatIsTold(t *testing.T) { // P12.3, R2
	eachWay(t, func(t *testing.T, x asks, call doing, want told) {
		l, reqs := roomyPairs(row()), roomyReqs(x.reqs)
		then, all := call(l, reqs, x.most)
		spoil(then)
		if !untouchedPairs(l, row()) || !untouchedReqs(reqs, x.reqs) {
			t.Errorf("it follows the pairs: %q, %+v", l, reqs)
		}
		spoilAnswers(all)
		if !untouchedPairs(l, row()) || !untouchedReqs(reqs, x.reqs) {
			t.Errorf("it follows the answers: %q, %+v", l, reqs)
		}
		if then, all = call(l, reqs, x.most); !want.is(then, all) {
			t.Errorf("what was told before is kept: %q, %+v", then, all)
		}
	})
}

func TestNoTwoOfOneAnswerShareBytes(t *testing.T) { // P12.3
	eachWay(t, func(t *testing.T, x asks, call doing, want told) {
		then, all := call(roomyPairs(row()), roomyReqs(x.reqs), x.most)
		lists, wants := bytesOf(then, all), bytesOf(want.then, want.all)
		for i, b := range lists {
			scribble(b)
			for j := i + 1; j < len(lists); j++ {
				if !bytes.Equal(lists[j], wants[j]) {
					t.Fatalf("list %d of bytes follows list %d: %q", j, i, lists[j])
				}
			}
		}
	})
}

func TestNoTwoOfOneAnswerSharePairs(t *testing.T) { // P12.3
	eachWay(t, func(t *testing.T, x asks, call doing, want told) {
		then, all := call(roomyPairs(row()), roomyReqs(x.reqs), x.most)
		lists, wants := pairLists(then, all), pairLists(want.then, want.all)
		for i, l := range lists {
			spoil(l)
			for j := i + 1; j < len(lists); j++ {
				if !alike(lists[j], wants[j]) {
					t.Fatalf("list %d of pairs follows list %d: %q", j, i, lists[j])
				}
			}
		}
	})
}

func TestTwoCallsShareNothing(t *testing.T) { // P12.3: nothing is kept
	eachWay(t, func(t *testing.T, x asks, call doing, want told) {
		l, reqs := roomyPairs(row()), roomyReqs(x.reqs)
		then, all := call(l, reqs, x.most)
		again, others := call(l, reqs, x.most)
		spoil(then)
		spoilAnswers(all)
		if !want.is(again, others) {
			t.Errorf("one call's follows another one's: %q, %+v", again, others)
		}
	})
}

func TestPairsBehindDoNotFollowThoseAhead(t *testing.T) { // P12.3: pairs that are as they were, too
	eachWay(t, func(t *testing.T, x asks, call doing, want told) {
		ahead, _ := call(row(), x.reqs, x.most)
		behind, _ := omap.All(ahead, nil, x.most)
		last, _ := omap.Do(behind, one(get, "b"), x.most)
		spoil(ahead)
		if !alike(behind, want.then) {
			t.Errorf("%q", behind)
		}
		spoil(behind)
		if !alike(last, want.then) {
			t.Errorf("%q", last)
		}
	})
}

func TestWhatIsHandedInOfOneMemory(t *testing.T) { // P12.3: keys, values and requests share theirs
	b := []byte("ab")
	l := []api.Pair{{Key: b[:1], Val: b[:1]}, {Key: b[1:], Val: b[:1]}}
	then, all := omap.All(l, []api.Req{
		{Kind: put, Key: b, Val: b, Old: b},
		{Kind: put, Key: b[:1], Val: b[1:]},
		{Kind: swap, Key: b[1:], Val: b, Old: b[:1]},
		{Kind: get, Key: b},
		{Kind: scan, Limit: 9},
	}, 9)
	want := told{
		pairs("a", "b", "ab", "ab", "b", "ab"),
		[]api.Res{{}, there("a"), there("a"), there("ab"), {Rows: pairs("a", "b", "ab", "ab", "b", "ab")}},
	}
	if !want.is(then, all) || string(b) != "ab" {
		t.Fatalf("%q, %+v, %q", then, all, b)
	}
	scribble(b)
	if !want.is(then, all) {
		t.Errorf("it follows what was handed in: %q, %+v", then, all)
	}
	scribble(then[1].Key, all[1].Val, all[4].Rows[2].Val)
	then[1].Key, all[1].Val, all[4].Rows[2].Val = []byte("ab"), []byte("a"), []byte("ab")
	if !want.is(then, all) {
		t.Errorf("what is told shares memory: %q, %+v", then, all)
	}
}
