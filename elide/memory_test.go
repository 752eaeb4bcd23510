package elide_test

import (
	"bytes"
	"slices"
	"testing"

	"garnet/api"
	"garnet/elide"
)

// roomy is a text's bytes with room behind them, where a careless append
// would write.
func roomy(s string) []byte {
	return append(bytes.Repeat([]byte{'#'}, 40)[:0], s...)
}

// untouched tells whether these bytes, and the room behind, are as roomy made
// them.
func untouched(b []byte, s string) bool {
	return string(b) == s && string(b[:cap(b)]) == string(roomy(s)[:40])
}

// roomyReqs is the same requests with room behind all of it, where requests
// lie too.
func roomyReqs(from []api.Req) []api.Req {
	l := make([]api.Req, len(from)+3)
	for i := range l {
		r := api.Req{Kind: -1}
		if i < len(from) {
			r = from[i]
		}
		r.Key, r.Val = roomy(string(r.Key)), roomy(string(r.Val))
		r.Old, r.To = roomy(string(r.Old)), roomy(string(r.To))
		l[i] = r
	}
	return l[:len(from)]
}

// untouchedReqs tells whether requests, and the room behind, are as roomyReqs
// made them.
func untouchedReqs(l, from []api.Req) bool {
	if len(l) != len(from) {
		return false
	}
	for i, r := range l[:cap(l)] {
		want := api.Req{Kind: -1}
		if i < len(l) {
			want = from[i]
		}
		if r.Client != want.Client || r.Seq != want.Seq || r.Kind != want.Kind || r.Limit != want.Limit ||
			!untouched(r.Key, string(want.Key)) || !untouched(r.Val, string(want.Val)) ||
			!untouched(r.Old, string(want.Old)) || !untouched(r.To, string(want.To)) {
			return false
		}
	}
	return true
}

func scribble(lists ...[]byte) {
	for _, b := range lists {
		b = b[:cap(b)]
		for i := range b {
			b[i] = '!'
		}
	}
}

func spoilReqs(l []api.Req) {
	l = l[:cap(l)]
	for i := range l {
		scribble(l[i].Key, l[i].Val, l[i].Old, l[i].To)
		l[i] = api.Req{Kind: get, Key: []byte("!")}
	}
}

func spoilPlaces(l []int) {
	l = l[:cap(l)]
	for i := range l {
		l[i] = -9
	}
}

// told is all that the calls tell of a batch: its order, its groups, and what
// each group comes to.
type told struct {
	places []int
	groups [][]int
	nets   []elide.Net
}

// handed is all that is handed in: requests, those of each group, and the
// value that each group's key has.
type handed struct {
	l      []api.Req
	groups [][]api.Req
	vals   [][]byte
}

const oldV = "1"

// tellingBatch is a batch with each way in which a group may go.
func tellingBatch() []api.Req {
	return []api.Req{
		one(get, "c"), one(put, "a", "22", "x"), over("a", "z", 9), one(absent, "b", "333"), one(swap, "c", "4444", oldV),
		one(get, "a"), one(get, "a"), one(del, "d", "v", "w"), one(swap, "b", "v", "w"), one(get, "b"), over("c", "", 1),
		one(put, "e", fullV), one(swap, "e", "", fullV), one(absent, "e", "v"), one(del, "f"), one(put, "f", oldV),
	}
}

// handOver makes all that is handed in anew, with room behind all of it.
func handOver() handed {
	from := tellingBatch()
	h := handed{l: roomyReqs(from)}
	for _, places := range groupsOf(from) {
		var group []api.Req
		for _, i := range places {
			group = append(group, from[i])
		}
		h.groups = append(h.groups, roomyReqs(group))
		h.vals = append(h.vals, roomy(oldV))
	}
	return h
}

// isUntouched tells whether all is as it was handed over.
func (h handed) isUntouched() bool {
	from := tellingBatch()
	if !untouchedReqs(h.l, from) {
		return false
	}
	for i, places := range groupsOf(from) {
		var group []api.Req
		for _, j := range places {
			group = append(group, from[j])
		}
		if !untouchedReqs(h.groups[i], group) || !untouched(h.vals[i], oldV) {
			return false
		}
	}
	return true
}

// spoil writes over all that was handed in.
func (h handed) spoil() {
	spoilReqs(h.l)
	for i := range h.groups {
		spoilReqs(h.groups[i])
		scribble(h.vals[i])
	}
}

// ask asks all of it; a key has its value, or there is room for a new one.
func (h handed) ask(has bool) told {
	w := told{places: elide.Order(h.l), groups: elide.Groups(h.l)}
	for i := range h.groups {
		net, _ := elide.Run(has, h.vals[i], true, h.groups[i])
		w.nets = append(w.nets, net)
	}
	return w
}

// wanted is what should be told.
func wanted(has bool) told {
	from := tellingBatch()
	w := told{places: placesOf(from), groups: groupsOf(from)}
	for _, places := range w.groups {
		var group []api.Req
		for _, i := range places {
			group = append(group, from[i])
		}
		net := elide.Net{} // of scans, that are no group to be run
		if group[0].Kind != scan {
			net = netOf(stand{has, oldV, true}, group)
		}
		w.nets = append(w.nets, net)
	}
	return w
}

func (w told) is(x told) bool {
	return slices.Equal(w.places, x.places) && sameGroups(w.groups, x.groups) && slices.EqualFunc(w.nets, x.nets, sameNet)
}

// bytesOf is all bytes that were told, list by list.
func (w told) bytesOf() [][]byte {
	var lists [][]byte
	for _, net := range w.nets {
		lists = append(lists, net.Val)
		for _, res := range net.Res {
			lists = append(lists, res.Val)
		}
	}
	return lists
}

// spoil writes over all that was told.
func (w told) spoil() {
	spoilPlaces(w.places)
	for _, g := range w.groups {
		spoilPlaces(g)
	}
	groups := w.groups[:cap(w.groups)]
	for i := range groups {
		groups[i] = []int{-9}
	}
	scribble(w.bytesOf()...)
	for _, net := range w.nets {
		for i := range net.Res[:cap(net.Res)] {
			net.Res[:cap(net.Res)][i] = api.Res{Code: -9, Found: true, Val: []byte("!")}
		}
	}
}

// eachWay asks of keys that aren't there, and of ones that are.
func eachWay(t *testing.T, f func(t *testing.T, has bool, want told)) {
	t.Run("not there", func(t *testing.T) { f(t, false, wanted(false)) })
	t.Run("there", func(t *testing.T) { f(t, true, wanted(true)) })
}

func TestWhatIsHandedInStays(t *testing.T) { // P13.3
	eachWay(t, func(t *testing.T, has bool, want told) {
		h := handOver()
		if got := h.ask(has); !got.is(want) {
			t.Errorf("%+v, not %+v", got, want)
		}
		if !h.isUntouched() {
			t.Errorf("changed: %+v", h)
		}
	})
}

func TestWhatIsToldDoesNotFollowWhatIsHandedIn(t *testing.T) { // P13.3, R2
	eachWay(t, func(t *testing.T, has bool, want told) {
		h := handOver()
		got := h.ask(has)
		h.spoil()
		if !got.is(want) {
			t.Errorf("it follows: %+v, not %+v", got, want)
		}
	})
}

func TestWhatIsHandedInDoesNotFollowWhatIsTold(t *testing.T) { // P13.3, R2
	eachWay(t, func(t *testing.T, has bool, want told) {
		h := handOver()
		h.ask(has).spoil()
		if !h.isUntouched() {
			t.Errorf("it follows: %+v", h)
		}
		if got := h.ask(has); !got.is(want) {
			t.Errorf("what was told before is kept: %+v, not %+v", got, want)
		}
	})
}

func TestTwoCallsShareNothing(t *testing.T) { // P13.3: nothing is kept
	eachWay(t, func(t *testing.T, has bool, want told) {
		h := handOver()
		first, second := h.ask(has), h.ask(has)
		first.spoil()
		if !second.is(want) {
			t.Errorf("one call's follows another one's: %+v, not %+v", second, want)
		}
	})
}

func TestNoTwoOfOneAnswerShareBytes(t *testing.T) { // P13.3: answers' values, and the Net's own
	eachWay(t, func(t *testing.T, has bool, want told) {
		lists, wants := handOver().ask(has).bytesOf(), want.bytesOf()
		for i, b := range lists {
			scribble(b)
			for j := i + 1; j < len(lists); j++ {
				if !bytes.Equal(lists[j], wants[j]) {
					t.Fatalf("list %d of bytes follows list %d: %q", j, i, lists[j])
				}
			}
		}
	})
}

func TestNetsValueAndAnswersAreApart(t *testing.T) { // P13.3
	for _, l := range [][]api.Req{
		{ask(get)}, {ask(get), ask(get)}, {ask(put, oldV), ask(get)}, {ask(swap, oldV, oldV), ask(get), ask(get)},
		{ask(absent, "v"), ask(get)}, {ask(swap, "v", "w"), ask(swap, "v", "w")}, {ask(del), ask(put, oldV), ask(get)},
	} {
		l, val := roomyReqs(l), roomy(oldV)
		net, _ := elide.Run(true, val, false, l)
		want := netOf(stand{has: true, val: oldV}, l)
		if !sameNet(net, want) {
			t.Fatalf("Run of %+v: %+v", l, net)
		}
		net.Val = append(net.Val, "!!!"...)
		scribble(net.Val)
		if !slices.EqualFunc(net.Res, want.Res, same) || !untouched(val, oldV) {
			t.Errorf("the answers of %+v follow the Net's value: %+v, %q", l, net.Res, val)
		}
		net, _ = elide.Run(true, val, false, l)
		for i := range net.Res {
			net.Res[i].Val = append(net.Res[i].Val, "!!!"...)
			scribble(net.Res[i].Val)
		}
		if string(net.Val) != oldV || !untouched(val, oldV) {
			t.Errorf("the Net's value, or what was handed in, follows the answers of %+v: %q, %q", l, net.Val, val)
		}
	}
}

func TestNoTwoGroupsShareMemory(t *testing.T) { // P13.3: what is written to one, or behind it, isn't in others
	draw := draws()
	for range 300 {
		l := make([]api.Req, draw(40))
		for i := range l {
			l[i] = anyReq(draw, []string{"", "a", "b", overA})
		}
		groups, want := elide.Groups(l), groupsOf(l)
		for i, g := range groups {
			_ = append(g, -1, -2, -3)
			if !sameGroups(groups[i:], want[i:]) {
				t.Fatalf("group %d of %+v: what is behind it is another one's", i, l)
			}
			spoilPlaces(g)
			if !sameGroups(groups[i+1:], want[i+1:]) {
				t.Fatalf("group %d of %+v: others follow it", i, l)
			}
		}
	}
}

func TestWhatIsHandedInOfOneMemory(t *testing.T) { // P13.3: the value, keys and requests share theirs
	b := []byte("ab")
	l := []api.Req{
		{Kind: swap, Key: b, Val: b[1:], Old: b},
		{Kind: get, Key: b, Val: b, Old: b},
		{Kind: put, Key: b, Val: b[:1]},
		{Kind: get, Key: b},
	}
	net, err := elide.Run(true, b, false, l)
	want := has("a", true, there("ab"), there("b"), there("b"), there("a"))
	if err != nil || !sameNet(net, want) || string(b) != "ab" {
		t.Fatalf("%+v, %v, %q", net, err, b)
	}
	scribble(b)
	if !sameNet(net, want) {
		t.Errorf("it follows what was handed in: %+v", net)
	}
	scribble(net.Val)
	if !slices.EqualFunc(net.Res, want.Res, same) {
		t.Errorf("the answers follow the Net's value: %+v", net.Res)
	}
}

func TestBesideAnErrorWhatIsHandedInStays(t *testing.T) { // P13.3
	for _, last := range []api.Req{{}, over("a", "", 9), one(put, "b", "v", "w"), one(put, "a", overV), one(put, "a", "v", "w")} {
		val := bytes.Repeat([]byte("v"), 33)
		from := []api.Req{one(put, "a", "1"), one(del, "a"), last}
		l := roomyReqs(from)
		if net, err := elide.Run(true, val, true, l); !isError(net, err) {
			t.Errorf("%+v, %v", net, err)
		}
		if !bytes.Equal(val, bytes.Repeat([]byte("v"), 33)) || l[0].Kind != put || len(l) != 3 ||
			!untouched(l[0].Val, "1") || !untouched(l[2].Key, string(last.Key)) || !untouched(l[2].Old, string(last.Old)) {
			t.Errorf("changed: %q, %+v", val, l)
		}
	}
}
