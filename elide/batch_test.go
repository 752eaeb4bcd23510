package elide_test

import (
	"slices"
	"strconv"
	"testing"

	"garnet/api"
	"garnet/elide"
	"garnet/omap"
	"garnet/row"
)

// outcome is what a batch comes to: each request's answer, by its place, and
// the pairs then.
type outcome struct {
	res   []api.Res
	pairs []api.Pair
}

func (x outcome) is(y outcome) bool {
	return slices.EqualFunc(x.res, y.res, same) && samePairs(x.pairs, y.pairs)
}

// oneByOne does a batch's requests one by one, in its order.
func oneByOne(pairs []api.Pair, l []api.Req, most int) outcome {
	out := outcome{make([]api.Res, len(l)), pairs}
	for _, i := range elide.Order(l) {
		out.pairs, out.res[i] = omap.Do(out.pairs, l[i], most)
	}
	return out
}

// groupByGroup does them group by group: scans on the pairs, others by Run.
func groupByGroup(t *testing.T, pairs []api.Pair, l []api.Req, most int) outcome {
	t.Helper()
	out := outcome{make([]api.Res, len(l)), pairs}
	for _, places := range elide.Groups(l) {
		if i := places[0]; l[i].Kind == scan {
			out.pairs, out.res[i] = omap.Do(out.pairs, l[i], most)
			continue
		}
		var group []api.Req
		for _, i := range places {
			group = append(group, l[i])
		}
		net := runOn(t, out.pairs, group, most)
		for n, i := range places {
			out.res[i] = net.Res[n]
		}
		out.pairs = turned(t, out.pairs, group[0].Key, net)
	}
	return out
}

// runOn runs a group on pairs.
func runOn(t *testing.T, pairs []api.Pair, group []api.Req, most int) elide.Net {
	t.Helper()
	var val []byte
	at, is := row.Find(pairs, group[0].Key)
	if is {
		val = pairs[at].Val
	}
	net, err := elide.Run(is, val, len(pairs) < most, group)
	if err != nil || len(net.Res) != len(group) {
		t.Fatalf("Run of %+v on %q: %+v, %v", group, pairs, net, err)
	}
	return net
}

// turned is the pairs as a Net says.
func turned(t *testing.T, pairs []api.Pair, k []byte, net elide.Net) []api.Pair {
	t.Helper()
	var then []api.Pair
	if net.Has {
		then, _, _ = row.Put(pairs, k, net.Val)
	} else {
		then, _ = row.Delete(pairs, k)
	}
	if net.Change == samePairs(pairs, then) {
		t.Fatalf("%q of %q and %q: Change is %v", k, pairs, then, net.Change)
	}
	return then
}

// checkWays does a batch in both ways.
func checkWays(t *testing.T, pairs []api.Pair, l []api.Req, most int) outcome {
	t.Helper()
	want := oneByOne(pairs, l, most)
	if got := groupByGroup(t, pairs, l, most); !got.is(want) {
		t.Fatalf("%+v on %q, of which %d may be: %+v, not %+v", l, pairs, most, got, want)
	}
	return want
}

// keysOf is so many keys, that rise.
func keysOf(n int) []string {
	var l []string
	for i := range n {
		l = append(l, "k"+strconv.Itoa(1000+i))
	}
	return l
}

// fairReq is a request that may be, of some keys.
func fairReq(draw func(int) int, keys []string) api.Req {
	pick := func() []byte { return []byte([]string{"", "1", "2"}[draw(3)]) }
	r := api.Req{Client: draw(32), Seq: draw(100), Kind: 1 + draw(5), Key: []byte(keys[draw(len(keys))]), Val: pick(), Old: pick()}
	if draw(4) == 0 {
		r.Kind, r.Limit, r.To = scan, 1+draw(8), []byte("z")
		if draw(2) == 0 {
			r.To = append([]byte(string(r.Key)), 'z')
		}
		if draw(8) == 0 {
			r.Key, r.To = nil, nil
		}
	}
	return r
}

// someRow is a row of some of the keys.
func someRow(draw func(int) int, keys []string) []api.Pair {
	var l []api.Pair
	for _, k := range keys {
		if draw(2) == 0 {
			l = append(l, api.Pair{Key: []byte(k), Val: []byte([]string{"", "1", "2"}[draw(3)])})
		}
	}
	return l
}

func TestGroupByGroup(t *testing.T) { // P13.4
	draw := draws()
	seen := map[string]int{}
	for range 3000 {
		keys := keysOf(1 + draw(12))
		pairs := someRow(draw, keys)
		l := make([]api.Req, []int{0, 1, 2, 5, 10, 20, 32, 33, 60}[draw(9)])
		for i := range l {
			l[i] = fairReq(draw, keys)
		}
		most := max(1, len(pairs)+draw(4))
		if draw(8) == 0 {
			most = len(keys)
		}
		out := checkWays(t, pairs, l, most)
		for i, res := range out.res {
			seen[strconv.Itoa(l[i].Kind)+" code "+strconv.Itoa(res.Code)]++
		}
		if !row.Is(out.pairs) || len(out.pairs) > most {
			t.Fatalf("%q, of which %d may be", out.pairs, most)
		}
	}
	for _, way := range []string{
		"1 code 0", "2 code 0", "2 code 5", "3 code 0", "4 code 0", "4 code 5", "5 code 0", "5 code 3", "5 code 10", "6 code 0",
	} {
		if seen[way] < 100 {
			t.Errorf("%s was seen %d times", way, seen[way])
		}
	}
}

func TestGroupByGroupWhereAllIsFull(t *testing.T) { // P13.4: just as many pairs as may be
	draw := draws()
	for _, n := range []int{1, 2, 3, 1000} {
		keys := keysOf(2 * n)
		var pairs []api.Pair
		for i := 0; i < len(keys); i += 2 {
			pairs = append(pairs, api.Pair{Key: []byte(keys[i]), Val: []byte("1")})
		}
		for range 40 {
			near := keys[draw(len(keys)):]
			l := make([]api.Req, 32)
			for i := range l {
				l[i] = fairReq(draw, near[:min(len(near), 4)])
			}
			checkWays(t, pairs, l, n)
		}
	}
}

func TestScansSeeTheirKeyAsOthersLeftIt(t *testing.T) { // P13.1, P13.4: they stand behind those of their key
	l := []api.Req{over("b", "c", 9), one(put, "b", "1"), over("a", "", 9), one(put, "c", "3"), one(del, "a"), over("b", "c", 9), one(swap, "b", "2", "1")}
	pairs := []api.Pair{{Key: []byte("a"), Val: []byte("0")}}
	b := api.Res{Rows: []api.Pair{{Key: []byte("b"), Val: []byte("2")}}}
	want := outcome{
		[]api.Res{b, {}, {}, {}, there("0"), b, there("1")},
		[]api.Pair{{Key: []byte("b"), Val: []byte("2")}, {Key: []byte("c"), Val: []byte("3")}},
	}
	if got := checkWays(t, pairs, l, 2); !got.is(want) {
		t.Errorf("%+v, not %+v", got, want)
	}
}

func TestPutsThatADeleteFollowsChangeNothing(t *testing.T) { // P13.4: whatever stands between them
	draw := draws()
	for range 2000 {
		l := []api.Req{ask([]int{put, absent}[draw(2)], "1")}
		for range draw(6) {
			l = append(l, ask(1+draw(5), strconv.Itoa(draw(3)), strconv.Itoa(draw(3))))
		}
		l = append(l, ask(del))
		for _, room := range []bool{false, true} {
			net, err := elide.Run(false, []byte("1"), room, l)
			if err != nil || net.Has || len(net.Val) > 0 || net.Change {
				t.Fatalf("%+v, room %v: %+v, %v", l, room, net, err)
			}
			if found := net.Res[len(l)-1].Found; !room && found {
				t.Fatalf("%+v, without room: %+v", l, net)
			}
		}
	}
}
