package elide_test

import (
	"bytes"
	"math"
	"slices"
	"strconv"
	"strings"
	"testing"

	"garnet/api"
	"garnet/elide"
	"garnet/omap"
)

// The errors' numbers, by the order in which DOC.md tells them.
const (
	errNone  = 3
	errFull  = 5
	errState = 10
)

// code is an answer with a Code alone.
func code(n int) api.Res { return api.Res{Code: n} }

// there is the answer of a key that is there, with its value.
func there(v string) api.Res { return api.Res{Found: true, Val: []byte(v)} }

// unlike is the answer of a swap whose value isn't Old.
func unlike(v string) api.Res { return api.Res{Code: errState, Found: true, Val: []byte(v)} }

// samePairs tells whether pairs are the same, one by one.
func samePairs(a, b []api.Pair) bool {
	return slices.EqualFunc(a, b, func(p, q api.Pair) bool {
		return string(p.Key) == string(q.Key) && string(p.Val) == string(q.Val)
	})
}

// same tells whether answers are the same.
func same(a, b api.Res) bool {
	return a.Code == b.Code && a.Found == b.Found && string(a.Val) == string(b.Val) &&
		a.Stamp == b.Stamp && samePairs(a.Rows, b.Rows)
}

func sameNet(a, b elide.Net) bool {
	return slices.EqualFunc(a.Res, b.Res, same) && a.Has == b.Has && a.Change == b.Change &&
		string(a.Val) == string(b.Val)
}

// stand is how a key stands: what it has, and whether there is room for it.
type stand struct {
	has  bool
	val  string
	room bool
}

// put puts a value, where there is room.
func (s *stand) put(v string) bool {
	if !s.has && !s.room {
		return false
	}
	if !s.has {
		s.room = false // the key takes it
	}
	s.has, s.val = true, v
	return true
}

// do does a request, by chapter 12's table.
func (s *stand) do(r api.Req) api.Res {
	was := api.Res{}
	if s.has {
		was = there(s.val)
	}
	switch {
	case r.Kind == put, r.Kind == absent && !s.has:
		if !s.put(string(r.Val)) {
			return code(errFull)
		}
	case r.Kind == del && s.has:
		*s = stand{room: true} // the key leaves it
	case r.Kind == swap && !s.has:
		return code(errNone)
	case r.Kind == swap && s.val != string(r.Old):
		return unlike(s.val)
	case r.Kind == swap:
		s.put(string(r.Val))
	}
	return was
}

// netOf is what a group comes to.
func netOf(s stand, l []api.Req) elide.Net {
	was := s
	var net elide.Net
	for _, r := range l {
		net.Res = append(net.Res, s.do(r))
	}
	net.Has = s.has
	if s.has {
		net.Val = []byte(s.val)
	}
	net.Change = s.has != was.has || s.has && s.val != was.val
	return net
}

// checkNet holds what Run tells of a group against what it should.
func checkNet(t *testing.T, s stand, l []api.Req, want elide.Net) {
	t.Helper()
	net, err := elide.Run(s.has, []byte(s.val), s.room, l)
	if err != nil || !sameNet(net, want) {
		t.Errorf("Run of %+v, %+v: %+v, %v, not %+v", s, l, net, err, want)
	}
}

// checkRow holds what Run tells against a row with so many other pairs, on
// which the requests are done one by one.
func checkRow(t *testing.T, s stand, l []api.Req, others int) {
	t.Helper()
	var pairs []api.Pair
	for i := range others {
		pairs = append(pairs, api.Pair{Key: []byte("z" + strconv.Itoa(10000+i)), Val: []byte("o")})
	}
	if s.has {
		pairs = slices.Insert(pairs, 0, api.Pair{Key: l[0].Key, Val: []byte(s.val)})
	}
	most := len(pairs)
	if s.room {
		most++
	}
	var want elide.Net
	var res api.Res
	was := pairs
	for _, r := range l {
		pairs, res = omap.Do(pairs, r, most)
		want.Res = append(want.Res, res)
	}
	if want.Has = len(pairs) > others; want.Has {
		want.Val = pairs[0].Val
	}
	want.Change = !samePairs(was, pairs)
	checkNet(t, s, l, want)
}

// stands is all in which a key may stand, with some values.
func stands(vals ...string) []stand {
	l := []stand{{}, {room: true}}
	for _, v := range vals {
		l = append(l, stand{has: true, val: v}, stand{has: true, val: v, room: true})
	}
	return l
}

// runs is a group, how its key stands, and what it comes to.
type runs struct {
	name string
	s    stand
	l    []api.Req
	want elide.Net
}

func checkRuns(t *testing.T, l []runs) {
	for _, x := range l {
		t.Run(x.name, func(t *testing.T) { checkNet(t, x.s, x.l, x.want) })
	}
}

// ask is a request of the key a.
func ask(kind int, vals ...string) api.Req { return one(kind, "a", vals...) }

func group(l ...api.Req) []api.Req { return l }

// has is what a group comes to, where the key has a value then.
func has(v string, change bool, res ...api.Res) elide.Net {
	return elide.Net{Res: res, Has: true, Val: []byte(v), Change: change}
}

// none is what a group comes to, where the key isn't there then.
func none(change bool, res ...api.Res) elide.Net { return elide.Net{Res: res, Change: change} }

func TestRunOfOne(t *testing.T) { // P13.2: each kind alone, there or not, with room or without
	free, full := stand{room: true}, stand{}
	old, tight := stand{true, "1", true}, stand{true, "1", false}
	checkRuns(t, []runs{
		{"get of none", free, group(ask(get)), none(false, api.Res{})},
		{"get of none, no room", full, group(ask(get)), none(false, api.Res{})},
		{"get", old, group(ask(get)), has("1", false, there("1"))},
		{"get, no room", tight, group(ask(get)), has("1", false, there("1"))},
		{"put of a new key", free, group(ask(put, "2")), has("2", true, api.Res{})},
		{"put of a new key, no room", full, group(ask(put, "2")), none(false, code(errFull))},
		{"put", old, group(ask(put, "2")), has("2", true, there("1"))},
		{"put, no room", tight, group(ask(put, "2")), has("2", true, there("1"))},
		{"delete of none", free, group(ask(del)), none(false, api.Res{})},
		{"delete of none, no room", full, group(ask(del)), none(false, api.Res{})},
		{"delete", old, group(ask(del)), none(true, there("1"))},
		{"delete, no room", tight, group(ask(del)), none(true, there("1"))},
		{"absent of a new key", free, group(ask(absent, "2")), has("2", true, api.Res{})},
		{"absent of a new key, no room", full, group(ask(absent, "2")), none(false, code(errFull))},
		{"absent", old, group(ask(absent, "2")), has("1", false, there("1"))},
		{"absent, no room", tight, group(ask(absent, "2")), has("1", false, there("1"))},
		{"swap of none", free, group(ask(swap, "2", "")), none(false, code(errNone))},
		{"swap of none, no room", full, group(ask(swap, "2", "")), none(false, code(errNone))},
		{"swap of another one", old, group(ask(swap, "2", "2")), has("1", false, unlike("1"))},
		{"swap of another one, no room", tight, group(ask(swap, "2", "")), has("1", false, unlike("1"))},
		{"swap", old, group(ask(swap, "2", "1")), has("2", true, there("1"))},
		{"swap, no room", tight, group(ask(swap, "2", "1")), has("2", true, there("1"))},
	})
}

func TestPutThatADeleteFollows(t *testing.T) { // the chapter's example, and P13.4
	checkRuns(t, []runs{
		{"put a, delete a", stand{room: true}, group(ask(put, "1"), ask(del)), none(false, api.Res{}, there("1"))},
		{"absent a, delete a", stand{room: true}, group(ask(absent, "1"), ask(del)), none(false, api.Res{}, there("1"))},
		{"put a, delete a, no room", stand{}, group(ask(put, "1"), ask(del)), none(false, code(errFull), api.Res{})},
		{"absent a, delete a, no room", stand{}, group(ask(absent, "1"), ask(del)), none(false, code(errFull), api.Res{})},
		{"put a of no bytes, delete a", stand{room: true}, group(ask(put, ""), ask(del)), none(false, api.Res{}, there(""))},
		{"put a twice, get a, delete a", stand{room: true}, group(ask(put, "1"), ask(put, "2"), ask(get), ask(del)), none(false, api.Res{}, there("1"), there("2"), there("2"))},
		{"put a, delete a, put a, delete a", stand{room: true}, group(ask(put, "1"), ask(del), ask(put, "2"), ask(del)), none(false, api.Res{}, there("1"), api.Res{}, there("2"))},
		{"put a, swap a, delete a", stand{room: true}, group(ask(put, "1"), ask(swap, "2", "1"), ask(del)), none(false, api.Res{}, there("1"), there("2"))},
		{"where it was there", stand{true, "0", false}, group(ask(put, "1"), ask(del)), none(true, there("0"), there("1"))},
	})
}

func TestRoom(t *testing.T) { // P13.2: a new key has it or hasn't; one that is there has it, and leaves it
	full, tight, free := stand{}, stand{true, "1", false}, stand{room: true}
	checkRuns(t, []runs{
		{"those behind go on", full, group(ask(put, "2"), ask(get), ask(absent, "3"), ask(swap, "4", "2"), ask(del), ask(put, "5")),
			none(false, code(errFull), api.Res{}, code(errFull), code(errNone), api.Res{}, code(errFull))},
		{"a put behind a delete", tight, group(ask(del), ask(put, "2")), has("2", true, there("1"), api.Res{})},
		{"an absent behind a delete", tight, group(ask(del), ask(absent, "2")), has("2", true, there("1"), api.Res{})},
		{"a swap behind a delete", tight, group(ask(del), ask(swap, "2", "1")), none(true, there("1"), code(errNone))},
		{"a put behind two deletes", tight, group(ask(del), ask(del), ask(put, "2")), has("2", true, there("1"), api.Res{}, api.Res{})},
		{"a put behind a delete, time and again", tight, group(ask(del), ask(put, "2"), ask(del), ask(put, "3"), ask(del), ask(absent, "4")),
			has("4", true, there("1"), api.Res{}, there("2"), api.Res{}, there("3"), api.Res{})},
		{"a put behind a delete of none", full, group(ask(del), ask(put, "2")), none(false, api.Res{}, code(errFull))},
		{"an absent behind a delete of none", full, group(ask(del), ask(absent, "2")), none(false, api.Res{}, code(errFull))},
		{"a swap behind a delete of none", full, group(ask(del), ask(swap, "2", "")), none(false, api.Res{}, code(errNone))},
		{"a put behind a swap of none", full, group(ask(swap, "2", ""), ask(put, "2")), none(false, code(errNone), code(errFull))},
		{"a put behind a get of none", full, group(ask(get), ask(put, "2")), none(false, api.Res{}, code(errFull))},
		{"two puts of a new key", free, group(ask(put, "1"), ask(put, "2")), has("2", true, api.Res{}, there("1"))},
		{"puts, deletes, puts of a new key", free, group(ask(put, "1"), ask(del), ask(absent, "2"), ask(absent, "3"), ask(put, "4")),
			has("4", true, api.Res{}, there("1"), api.Res{}, there("2"), there("2"))},
		{"a put behind a delete of none, with room", free, group(ask(del), ask(put, "2")), has("2", true, api.Res{}, api.Res{})},
	})
}

func TestSwapInAGroup(t *testing.T) { // P13.2: it sees what those before it left
	free, empty := stand{room: true}, stand{has: true}
	checkRuns(t, []runs{
		{"of what was put", free, group(ask(put, "1"), ask(swap, "2", "1")), has("2", true, api.Res{}, there("1"))},
		{"of what was there ahead of that", stand{true, "0", true}, group(ask(put, "1"), ask(swap, "2", "0")), has("1", true, there("0"), unlike("1"))},
		{"of what was swapped", stand{true, "0", false}, group(ask(swap, "1", "0"), ask(swap, "2", "1"), ask(swap, "3", "1")),
			has("2", true, there("0"), there("1"), unlike("2"))},
		{"of what was put absent", free, group(ask(absent, "1"), ask(swap, "2", "1")), has("2", true, api.Res{}, there("1"))},
		{"of what an absent left", stand{true, "0", true}, group(ask(absent, "1"), ask(swap, "2", "0")), has("2", true, there("0"), there("0"))},
		{"value and Old are empty", empty, group(ask(swap, "2", "")), has("2", true, there(""))},
		{"value, Old and Val are empty", empty, group(ask(swap, "", "")), has("", false, there(""))},
		{"value is empty, Old isn't", empty, group(ask(swap, "2", "1")), has("", false, unlike(""))},
		{"Old is empty, value isn't", stand{has: true, val: "1"}, group(ask(swap, "2", "")), has("1", false, unlike("1"))},
		{"an empty value that was put", free, group(ask(put, ""), ask(swap, "2", "")), has("2", true, api.Res{}, there(""))},
		{"of MaxVal", stand{true, fullV, false}, group(ask(swap, fullV[1:]+"w", fullV)), has(fullV[1:]+"w", true, there(fullV))},
		{"Old is unlike by the last byte", stand{true, fullV, false}, group(ask(swap, "2", fullV[1:]+"w")), has(fullV, false, unlike(fullV))},
	})
}

func TestChange(t *testing.T) { // P13.2: whether it is there, or its value, is unlike
	free, old := stand{room: true}, stand{true, "1", false}
	checkRuns(t, []runs{
		{"put as it was", old, group(ask(put, "1")), has("1", false, there("1"))},
		{"put, and put back", old, group(ask(put, "2"), ask(put, "1")), has("1", false, there("1"), there("2"))},
		{"put, and swapped back", old, group(ask(put, "2"), ask(swap, "1", "2")), has("1", false, there("1"), there("2"))},
		{"swapped, and swapped back", old, group(ask(swap, "2", "1"), ask(swap, "1", "2")), has("1", false, there("1"), there("2"))},
		{"deleted, and put as it was", old, group(ask(del), ask(put, "1")), has("1", false, there("1"), api.Res{})},
		{"deleted, and put absent as it was", old, group(ask(del), ask(absent, "1")), has("1", false, there("1"), api.Res{})},
		{"deleted, and put otherwise", old, group(ask(del), ask(put, "2")), has("2", true, there("1"), api.Res{})},
		{"put, put back, deleted", old, group(ask(put, "2"), ask(put, "1"), ask(del)), none(true, there("1"), there("2"), there("1"))},
		{"an empty value where there was none", free, group(ask(put, "")), has("", true, api.Res{})},
		{"an empty value, absent, where there was none", free, group(ask(absent, "")), has("", true, api.Res{})},
		{"an empty value in place of another one", old, group(ask(put, "")), has("", true, there("1"))},
		{"a value in place of an empty one", stand{has: true}, group(ask(put, "1")), has("1", true, there(""))},
		{"an empty value as it was", stand{has: true}, group(ask(put, "")), has("", false, there(""))},
		{"an empty value is deleted", stand{has: true}, group(ask(del)), none(true, there(""))},
		{"an empty value is deleted, and put anew", stand{has: true}, group(ask(del), ask(put, "")), has("", false, there(""), api.Res{})},
		{"one that begins with what it was", old, group(ask(put, "1\x00")), has("1\x00", true, there("1"))},
		{"one that it began with", stand{true, "12", false}, group(ask(put, "1")), has("1", true, there("12"))},
		{"in capital letters", stand{true, "v", false}, group(ask(put, "V")), has("V", true, there("v"))},
		{"of MaxVal, by the last byte", stand{true, fullV, false}, group(ask(put, fullV[1:]+"w")), has(fullV[1:]+"w", true, there(fullV))},
		{"of MaxVal, as it was", stand{true, fullV, false}, group(ask(put, fullV)), has(fullV, false, there(fullV))},
		{"an error at the end", old, group(ask(put, "2"), ask(swap, "3", "1")), has("2", true, there("1"), unlike("2"))},
	})
}

func TestValWithoutHasPlaysNoPart(t *testing.T) { // P13.2: nothing is asked of it
	for _, v := range []string{"", "1", fullV, overV, strings.Repeat("v", 5000)} {
		s := stand{val: v, room: true}
		checkNet(t, s, group(ask(get)), none(false, api.Res{}))
		checkNet(t, s, group(ask(del)), none(false, api.Res{}))
		checkNet(t, s, group(ask(swap, "2", v[:min(len(v), 32)])), none(false, code(errNone)))
		checkNet(t, s, group(ask(put, "1")), has("1", true, api.Res{}))
		checkNet(t, s, group(ask(put, "")), has("", true, api.Res{}))
		checkNet(t, s, group(ask(put, "1"), ask(del)), none(false, api.Res{}, there("1")))
		s.room = false
		checkNet(t, s, group(ask(put, "1")), none(false, code(errFull)))
	}
	for _, room := range []bool{false, true} { // a value that isn't there
		net, err := elide.Run(false, nil, room, group(ask(del)))
		if err != nil || !sameNet(net, none(false, api.Res{})) {
			t.Errorf("%+v, %v", net, err)
		}
		net, err = elide.Run(true, nil, room, group(ask(swap, "", "")))
		if err != nil || !sameNet(net, has("", false, there(""))) {
			t.Errorf("%+v, %v", net, err)
		}
	}
}

// wrong is requests of the key b that are no part of a group with those of
// it, each with a name.
func wrong() map[string]api.Req {
	good := one(put, "b", "v", "w")
	return map[string]api.Req{
		"a zero one":             {},
		"Client -1":              changed(good, func(r *api.Req) { r.Client = -1 }),
		"Seq -1":                 changed(good, func(r *api.Req) { r.Seq = -1 }),
		"kind 0":                 changed(good, func(r *api.Req) { r.Kind = 0 }),
		"kind 7":                 changed(good, func(r *api.Req) { r.Kind = 7 }),
		"kind -1":                changed(good, func(r *api.Req) { r.Kind = -1 }),
		"Val of one byte more":   changed(good, func(r *api.Req) { r.Val = []byte(overV) }),
		"Old of one byte more":   changed(good, func(r *api.Req) { r.Old = []byte(overV) }),
		"a get, with such a Val": changed(good, func(r *api.Req) { r.Kind, r.Val = get, []byte(overV) }),
		"a key of no bytes":      changed(good, func(r *api.Req) { r.Key = []byte{} }),
		"no key":                 changed(good, func(r *api.Req) { r.Key = nil }),
		"a key of one byte more": changed(good, func(r *api.Req) { r.Key = []byte(overA) }),
		"a scan":                 over("b", "", 1),
		"a scan with an end":     over("b", "c", 1),
		"a scan of all":          over("", "", 1),
		"a scan that may not be": over("b", "b", 1),
		"a scan without a limit": over("b", "", 0),
		"a scan of another key":  over("c", "", 1),
		"a key behind":           one(put, "c", "v", "w"),
		"a key ahead":            one(put, "a", "v", "w"),
		"a key that it begins":   one(put, "b\x00", "v", "w"),
		"a key of other letters": one(put, "B", "v", "w"),
	}
}

// isError tells whether Run told an error, and beside it nothing.
func isError(net elide.Net, err error) bool {
	return err == api.ErrArg && len(net.Res) == 0 && !net.Has && len(net.Val) == 0 && !net.Change
}

// checkErrors tells that Run is told ErrArg, however the key stands.
func checkErrors(t *testing.T, name string, l []api.Req) {
	t.Helper()
	for _, s := range append(stands("", "v", fullV), stand{val: overV}, stand{true, overV, true}) {
		if net, err := elide.Run(s.has, []byte(s.val), s.room, l); !isError(net, err) {
			t.Errorf("%s, of %+v: %+v, %v", name, s, net, err)
		}
	}
}

func TestRunOfWhatIsNoGroup(t *testing.T) { // P13.2's ErrArg, and R3
	checkErrors(t, "no requests, nil", nil)
	checkErrors(t, "no requests", []api.Req{})
	for name, r := range wrong() {
		good := one(put, "b", "x", "v")
		checkErrors(t, name+" as the first one", []api.Req{r, good})
		checkErrors(t, name+" as the last one", []api.Req{good, r})
		checkErrors(t, name+" among others", []api.Req{good, one(get, "b"), r, one(del, "b"), good})
		checkErrors(t, name+" as the last one of many", append(slices.Repeat([]api.Req{good}, 40), r))
		if single := r.Kind != scan && omap.May(r); !single {
			checkErrors(t, name+" alone", []api.Req{r})
			checkErrors(t, name+" twice", []api.Req{r, r})
		}
	}
	l := []api.Req{one(get, longA), one(get, longA), one(get, longA[:15])}
	checkErrors(t, "the last key is a byte shorter", l)
	checkErrors(t, "the first key is a byte shorter", []api.Req{l[2], l[0]})
}

func TestRunOfWhatIsNoValue(t *testing.T) { // P13.2's ErrArg: has, and val isn't a value
	for _, kind := range single() {
		for _, room := range []bool{false, true} {
			l := []api.Req{one(kind, "a", "v", "w")}
			for _, n := range []int{33, 34, 64, 1 << 16} {
				if net, err := elide.Run(true, make([]byte, n), room, l); !isError(net, err) {
					t.Errorf("kind %d, a val of %d bytes: %+v, %v", kind, n, net, err)
				}
				if net, err := elide.Run(false, make([]byte, n), room, l); err != nil || len(net.Res) != 1 {
					t.Errorf("kind %d, a val of %d bytes, that isn't there: %+v, %v", kind, n, net, err)
				}
			}
			for _, n := range []int{0, 1, 31, 32} {
				net, err := elide.Run(true, make([]byte, n), room, l)
				if err != nil || len(net.Res) != 1 || !net.Res[0].Found || !bytes.Equal(net.Res[0].Val, make([]byte, n)) {
					t.Errorf("kind %d, a val of %d bytes: %+v, %v", kind, n, net, err)
				}
			}
		}
	}
}

func TestRunOfKeysAtTheEdges(t *testing.T) { // P13.2: each key that may be is one
	for _, k := range []string{"\x00", "a", "\xff", "b\x00", longA, strings.Repeat("\xff", 16)} {
		l := []api.Req{one(put, k, fullV), one(swap, k, "", fullV), one(get, k)}
		checkNet(t, stand{room: true}, l, has("", true, api.Res{}, there(fullV), there("")))
		checkRow(t, stand{true, fullV, false}, []api.Req{one(swap, k, fullV, fullV), one(del, k), one(absent, k, "v")}, 0)
	}
	l := []api.Req{
		{Client: math.MaxInt, Seq: 0, Kind: get, Key: []byte("a"), To: []byte("a"), Limit: -1},
		{Client: 0, Seq: math.MaxInt, Kind: get, Key: []byte("a"), To: []byte(overA), Limit: 101},
	}
	checkNet(t, stand{true, "1", true}, l, has("1", false, there("1"), there("1"))) // To and Limit play no part
}

// asked is one request of the key a of each kind, with some values.
func asked(vals ...string) []api.Req {
	var l []api.Req
	for _, kind := range single() {
		for _, v := range vals {
			for _, old := range vals {
				if kind == swap || (old == vals[0] && (v == vals[0] || kind != get && kind != del)) {
					l = append(l, one(kind, "a", v, old))
				}
			}
		}
	}
	return l
}

func TestEachTwo(t *testing.T) { // P13.2: each two of the kinds, one behind the other
	for _, s := range stands("", "1", "2") {
		for _, a := range asked("", "1", "2") {
			checkNet(t, s, []api.Req{a}, netOf(s, []api.Req{a}))
			for _, b := range asked("", "1", "2") {
				l := []api.Req{a, b}
				checkNet(t, s, l, netOf(s, l))
				for _, others := range []int{0, 1, 3} {
					checkRow(t, s, l, others)
				}
			}
		}
	}
}

func TestEachThreeAndFour(t *testing.T) { // P13.2
	for _, s := range stands("", "1") {
		for _, a := range asked("", "1") {
			for _, b := range asked("", "1") {
				for _, c := range asked("", "1") {
					l := []api.Req{a, b, c}
					checkNet(t, s, l, netOf(s, l))
					for _, d := range asked("1") {
						l := []api.Req{a, b, c, d}
						checkNet(t, s, l, netOf(s, l))
					}
				}
			}
		}
	}
}

func TestManyGroups(t *testing.T) { // P13.2: by chapter 12's table, and on rows
	draw := draws()
	pick := func() string { return []string{"", "1", "2", "\x00", fullV}[draw(5)] }
	seen := map[string]int{}
	for range 4000 {
		l := make([]api.Req, 1+draw(40))
		for i := range l {
			l[i] = api.Req{Client: draw(9), Seq: draw(99), Kind: 1 + draw(5), Key: []byte("key"), Val: []byte(pick()), Old: []byte(pick())}
		}
		s := stand{draw(2) == 0, pick(), draw(2) == 0}
		want := netOf(s, l)
		checkNet(t, s, l, want)
		checkRow(t, s, l, draw(4))
		seen["has "+strconv.FormatBool(want.Has)+", change "+strconv.FormatBool(want.Change)]++
		for i, res := range want.Res {
			seen[strconv.Itoa(l[i].Kind)+" code "+strconv.Itoa(res.Code)]++
		}
	}
	for _, way := range []string{
		"has false, change false", "has false, change true", "has true, change false", "has true, change true",
		"1 code 0", "2 code 0", "2 code 5", "3 code 0", "4 code 0", "4 code 5", "5 code 0", "5 code 3", "5 code 10",
	} {
		if seen[way] < 100 {
			t.Errorf("%s was seen %d times", way, seen[way])
		}
	}
}

func TestLongGroupsOnLongRows(t *testing.T) { // P13.2: more than MaxBatch, and MaxPairs
	draw := draws()
	l := make([]api.Req, 3000)
	for i := range l {
		v, old := strconv.Itoa(draw(3)), strconv.Itoa(draw(3))
		l[i] = one(1+draw(5), "a", v, old)
	}
	for _, s := range stands("0", "1") {
		checkNet(t, s, l, netOf(s, l))
		checkRow(t, s, l[:100], 999)
		checkRow(t, s, l[:33], 1000)
	}
}

func TestRunAllArguments(t *testing.T) { // P1
	huge := strings.Repeat("h", 1<<12)
	texts := [][]byte{nil, {}, []byte("a"), {0}, {0xff}, []byte(longA), []byte(overA), []byte(fullV), []byte(overV), []byte(huge)}
	var reqs []api.Req
	for _, kind := range []int{math.MinInt, -1, 0, 1, 2, 3, 4, 5, 6, 7, math.MaxInt} {
		for i, k := range texts {
			for j, v := range texts {
				for _, n := range []int{math.MinInt, -1, 0, 1, 101, math.MaxInt} {
					old, to := texts[(i+j)%len(texts)], texts[(i+2*j)%len(texts)]
					reqs = append(reqs, api.Req{Client: max(n, j-4), Seq: max(n, 0), Kind: kind, Key: k, Val: v, Old: old, To: to, Limit: n})
				}
			}
		}
	}
	for i, r := range reqs {
		for _, l := range [][]api.Req{{r}, {r, reqs[(i*7+1)%len(reqs)]}, {r, r, reqs[(i+1)%len(reqs)]}} {
			may := !slices.ContainsFunc(l, func(x api.Req) bool {
				return !omap.May(x) || x.Kind == scan || !bytes.Equal(x.Key, l[0].Key)
			})
			for _, v := range texts {
				for _, has := range []bool{false, true} {
					net, err := elide.Run(has, v, i%2 == 0, l)
					if wanted := may && (!has || len(v) <= 32); wanted && (err != nil || len(net.Res) != len(l)) || !wanted && !isError(net, err) {
						t.Fatalf("Run(%v, %q, %+v): %+v, %v", has, v, l, net, err)
					}
				}
			}
		}
	}
	if got := elide.Order(reqs); !slices.Equal(got, placesOf(reqs)) {
		t.Error("their order is another one")
	}
	if got := elide.Groups(reqs); !sameGroups(got, groupsOf(reqs)) {
		t.Error("their groups are other ones")
	}
}
