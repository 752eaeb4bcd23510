package omap_test

import (
	"bytes"
	"math"
	"slices"
	"strconv"
	"strings"
	"testing"

	"garnet/api"
	"garnet/omap"
)

// Keys of MaxKey bytes and of one more, values of MaxVal bytes and of one more.
const (
	longA = "aaaaaaaaaaaaaaaa"
	longZ = "zzzzzzzzzzzzzzzz"
	overA = longA + "a"
	fullV = "vvvvvvvvvvvvvvvvvvvvvvvvvvvvvvvv"
	overV = fullV + "v"
)

// The kinds, by the numbers that DOC.md gives them.
const (
	get    = 1
	put    = 2
	del    = 3
	absent = 4
	swap   = 5
	scan   = 6
)

// The errors' numbers, by the order in which DOC.md tells them.
const (
	errArg   = 1
	errNone  = 3
	errFull  = 5
	errState = 10
)

// single is the kinds that are of one key.
func single() []int { return []int{get, put, del, absent, swap} }

func kinds() []int { return append(single(), scan) }

// one is a request of one key: a key, and maybe a value, and an old one.
func one(kind int, k string, vals ...string) api.Req {
	r := api.Req{Client: 3, Seq: 7, Kind: kind, Key: []byte(k)}
	if len(vals) > 0 {
		r.Val = []byte(vals[0])
	}
	if len(vals) > 1 {
		r.Old = []byte(vals[1])
	}
	return r
}

// over is a scan.
func over(from, to string, limit int) api.Req {
	return api.Req{Client: 3, Seq: 7, Kind: scan, Key: []byte(from), To: []byte(to), Limit: limit}
}

// pairs is pairs, told by texts: a key and a value each.
func pairs(texts ...string) []api.Pair {
	var l []api.Pair
	for i := 0; i < len(texts); i += 2 {
		l = append(l, api.Pair{Key: []byte(texts[i]), Val: []byte(texts[i+1])})
	}
	return l
}

// texts is what pairs tells, the other way round.
func texts(l []api.Pair) []string {
	var out []string
	for _, p := range l {
		out = append(out, string(p.Key), string(p.Val))
	}
	return out
}

// alike tells whether pairs are the same, one by one.
func alike(a, b []api.Pair) bool { return slices.Equal(texts(a), texts(b)) }

// same tells whether answers are the same.
func same(a, b api.Res) bool {
	return a.Code == b.Code && a.Found == b.Found && string(a.Val) == string(b.Val) &&
		a.Stamp == b.Stamp && alike(a.Rows, b.Rows)
}

// code is an answer with a Code alone.
func code(n int) api.Res { return api.Res{Code: n} }

// there is the answer of a key that is there, with its value.
func there(v string) api.Res { return api.Res{Found: true, Val: []byte(v)} }

// order is chapter 5's, byte by byte.
func order(a, b string) int {
	for i := 0; i < len(a) && i < len(b); i++ {
		if a[i] < b[i] {
			return -1
		}
		if a[i] > b[i] {
			return 1
		}
	}
	return min(1, max(-1, len(a)-len(b)))
}

// lies is chapter 5's word of a key in a range.
func lies(from, to, k string) bool {
	return order(k, from) >= 0 && (to == "" || order(to, k) > 0)
}

// isRow is chapter 6's word of a row.
func isRow(l []api.Pair) bool {
	for i, p := range l {
		if len(p.Key) < 1 || len(p.Key) > 16 || len(p.Val) > 32 {
			return false
		}
		if i > 0 && order(string(l[i-1].Key), string(p.Key)) != -1 {
			return false
		}
	}
	return true
}

// may is the chapter's word of a request that may be.
func may(r api.Req) bool {
	if r.Client < 0 || r.Seq < 0 || len(r.Val) > 32 || len(r.Old) > 32 {
		return false
	}
	if r.Kind == scan {
		ends := len(r.Key) <= 16 && len(r.To) <= 16
		rises := len(r.To) == 0 || order(string(r.To), string(r.Key)) > 0
		return ends && rises && r.Limit >= 1 && r.Limit <= 100
	}
	return r.Kind >= 1 && r.Kind <= 5 && len(r.Key) >= 1 && len(r.Key) <= 16
}

// model is a plain map, by which requests mean what the chapter's table says.
type model map[string]string

func modelOf(l []api.Pair) model {
	m := model{}
	for _, p := range l {
		m[string(p.Key)] = string(p.Val)
	}
	return m
}

// pairs is the row of a map.
func (m model) pairs() []api.Pair {
	var l []api.Pair
	for k, v := range m {
		l = append(l, api.Pair{Key: []byte(k), Val: []byte(v)})
	}
	slices.SortFunc(l, func(p, q api.Pair) int { return order(string(p.Key), string(q.Key)) })
	return l
}

// do does a request on the map.
func (m model) do(r api.Req, most int) api.Res {
	if !may(r) {
		return code(errArg)
	}
	if r.Kind == scan {
		return api.Res{Rows: m.rows(r)}
	}
	k, v := string(r.Key), string(r.Val)
	was, is := m[k]
	res := api.Res{}
	if is {
		res = there(was)
	}
	full := !is && len(m) >= most
	switch {
	case r.Kind == put && full, r.Kind == absent && full:
		return code(errFull)
	case r.Kind == swap && !is:
		return code(errNone)
	case r.Kind == swap && was != string(r.Old):
		res.Code = errState
	case r.Kind == put, r.Kind == swap, r.Kind == absent && !is:
		m[k] = v
	case r.Kind == del:
		delete(m, k)
	}
	return res
}

// rows is what a scan finds in the map.
func (m model) rows(r api.Req) []api.Pair {
	var l []api.Pair
	for _, p := range m.pairs() {
		if lies(string(r.Key), string(r.To), string(p.Key)) && len(l) < r.Limit {
			l = append(l, p)
		}
	}
	return l
}

// checkDo does a request by Do, and by All as the only one, and holds both
// against what they should tell.
func checkDo(t *testing.T, l []api.Pair, r api.Req, most int, then []api.Pair, res api.Res) {
	t.Helper()
	gotThen, got := omap.Do(l, r, most)
	if !alike(gotThen, then) || !same(got, res) {
		t.Errorf("Do(%q, %+v, %d): %q, %+v, not %q, %+v", l, r, most, gotThen, got, then, res)
	}
	allThen, all := omap.All(l, []api.Req{r}, most)
	if len(all) != 1 || !alike(allThen, then) || !same(all[0], res) {
		t.Errorf("All(%q, %+v, %d): %q, %+v, not %q, %+v", l, r, most, allThen, all, then, res)
	}
}

// checkByModel holds a request, done by Do and by All, against a plain map.
func checkByModel(t *testing.T, l []api.Pair, r api.Req, most int) {
	t.Helper()
	m := modelOf(l)
	res := m.do(r, most)
	checkDo(t, l, r, most, m.pairs(), res)
}

// draws is numbers that look like chance and are the same in each run.
func draws() func(k int) int {
	seed := uint64(1)
	return func(k int) int {
		seed = seed*6364136223846793005 + 1442695040888963407
		return int(seed>>33) % k
	}
}

// keys is keys of all kinds: the least and the greatest byte, those that
// others begin with, no UTF-8, of MaxKey bytes.
func keys() []string {
	return []string{
		"\x00", "\x00\x00", "B", "a", "a\x00", "aa", "ab", "b", "ba", "m", "\x7f", "\x80", "\xff",
		"\xff\xff", longA[:15], longA, longZ, strings.Repeat("\x00", 16), strings.Repeat("\xff", 16),
	}
}

// values is values of all kinds.
func values() []string { return []string{"", "v", "w", "\x00", "\xff\xfe", fullV} }

// manyKey is a key of the many that long rows have; they rise with n.
func manyKey(n int) string { return string([]byte{'k', byte(n >> 8), byte(n)}) }

// manyRow is a row of so many pairs: each second key, from the first on.
func manyRow(n int) []api.Pair {
	var l []api.Pair
	for i := range n {
		l = append(l, api.Pair{Key: []byte(manyKey(2*i + 1)), Val: []byte(strconv.Itoa(i))})
	}
	return l
}

// changed is a request of which something is unlike.
func changed(r api.Req, how func(r *api.Req)) api.Req {
	how(&r)
	return r
}

func TestMayOfEachKind(t *testing.T) { // P12.1: what is asked of all alike
	for _, kind := range kinds() {
		good := api.Req{Kind: kind, Key: []byte("b"), To: []byte("d"), Limit: 1}
		for _, x := range []struct {
			name string
			how  func(r *api.Req)
			want bool
		}{
			{"as it is", func(r *api.Req) {}, true},
			{"Client 0", func(r *api.Req) { r.Client = 0 }, true},
			{"Client -1", func(r *api.Req) { r.Client = -1 }, false},
			{"the least Client", func(r *api.Req) { r.Client = math.MinInt }, false},
			{"the greatest Client", func(r *api.Req) { r.Client = math.MaxInt }, true},
			{"Seq 0", func(r *api.Req) { r.Seq = 0 }, true},
			{"Seq -1", func(r *api.Req) { r.Seq = -1 }, false},
			{"the least Seq", func(r *api.Req) { r.Seq = math.MinInt }, false},
			{"the greatest Seq", func(r *api.Req) { r.Seq = math.MaxInt }, true},
			{"Client and Seq -1", func(r *api.Req) { r.Client, r.Seq = -1, -1 }, false},
			{"Client -1, Seq 1", func(r *api.Req) { r.Client, r.Seq = -1, 1 }, false},
			{"Val empty", func(r *api.Req) { r.Val = []byte{} }, true},
			{"Val of MaxVal", func(r *api.Req) { r.Val = []byte(fullV) }, true},
			{"Val of one more", func(r *api.Req) { r.Val = []byte(overV) }, false},
			{"Val of a great many", func(r *api.Req) { r.Val = make([]byte, 1<<20) }, false},
			{"Old empty", func(r *api.Req) { r.Old = []byte{} }, true},
			{"Old of MaxVal", func(r *api.Req) { r.Old = []byte(fullV) }, true},
			{"Old of one more", func(r *api.Req) { r.Old = []byte(overV) }, false},
			{"Val and Old of MaxVal", func(r *api.Req) { r.Val, r.Old = []byte(fullV), []byte(fullV) }, true},
			{"a key of one byte", func(r *api.Req) { r.Key = []byte{0} }, true},
			{"a key of MaxKey", func(r *api.Req) { r.Key = []byte(longA) }, true},
			{"a key of one more", func(r *api.Req) { r.Key = []byte(overA) }, false},
			{"a key of no bytes, nil", func(r *api.Req) { r.Key = nil }, kind == scan},
			{"a key of no bytes", func(r *api.Req) { r.Key = []byte{} }, kind == scan},
			{"a key of a great many", func(r *api.Req) { r.Key = make([]byte, 1<<20) }, false},
			{"Limit 0", func(r *api.Req) { r.Limit = 0 }, kind != scan},
			{"Limit -1", func(r *api.Req) { r.Limit = -1 }, kind != scan},
			{"Limit MaxRows", func(r *api.Req) { r.Limit = 100 }, true},
			{"Limit of one more", func(r *api.Req) { r.Limit = 101 }, kind != scan},
			{"the greatest Limit", func(r *api.Req) { r.Limit = math.MaxInt }, kind != scan},
			{"the least Limit", func(r *api.Req) { r.Limit = math.MinInt }, kind != scan},
			{"no To", func(r *api.Req) { r.To = nil }, true},
			{"To of MaxKey", func(r *api.Req) { r.To = []byte(longZ) }, true},
			{"To of one more", func(r *api.Req) { r.To = []byte(longZ + "z") }, kind != scan},
			{"To is the key", func(r *api.Req) { r.To = []byte("b") }, kind != scan},
			{"To is less", func(r *api.Req) { r.To = []byte("a") }, kind != scan},
			{"To of a great many", func(r *api.Req) { r.To = bytes.Repeat([]byte("z"), 1<<20) }, kind != scan},
		} {
			r := changed(good, x.how)
			if got := omap.May(r); got != x.want {
				t.Errorf("kind %d, %s: %v", kind, x.name, got)
			}
		}
	}
}

func TestMayOfNoKind(t *testing.T) { // P12.1
	for _, kind := range []int{0, 7, 8, -1, -2, -6, 100, 1 << 32, 1<<32 + 1, math.MinInt, math.MaxInt} {
		for _, r := range []api.Req{one(kind, "a", "v"), over("a", "b", 1), {Key: []byte("a")}, {Limit: 1}} {
			r.Kind = kind
			if omap.May(r) {
				t.Errorf("May(%+v): true", r)
			}
		}
	}
	if omap.May(api.Req{}) {
		t.Error("a zero request may be")
	}
}

func TestMayOfScans(t *testing.T) { // P12.1
	for _, x := range []struct {
		name     string
		from, to string
		want     bool
	}{
		{"no From and no To", "", "", true},
		{"no From alone", "", "b", true},
		{"no To alone", "b", "", true},
		{"both", "b", "d", true},
		{"no From, and the least To", "", "\x00", true},
		{"the least From, no To", "\x00", "", true},
		{"the greatest From, no To", strings.Repeat("\xff", 16), "", true},
		{"From of MaxKey", longA, "b", true},
		{"From of MaxKey, no To", longA, "", true},
		{"From of one more", overA, "b", false},
		{"From of one more, no To", overA, "", false},
		{"To of MaxKey", "a", longZ, true},
		{"To of MaxKey, no From", "", longZ, true},
		{"To of one more", "a", longZ + "z", false},
		{"To of one more, no From", "", longZ + "z", false},
		{"both of MaxKey", longA, longZ, true},
		{"both of one more", overA, longZ + "z", false},
		{"To is From", "b", "b", false},
		{"To is From, of MaxKey", longA, longA, false},
		{"To just below From", "b\x00", "b", false},
		{"To just above From", "b", "b\x00", true},
		{"To just below From, by the last byte", "bb", "ba", false},
		{"To just above From, by the last byte", "ba", "bb", true},
		{"by bytes, not by lengths", "aa", "b", true},
		{"by lengths", "b", "aa", false},
		{"bytes have no sign", "\x7f", "\x80", true},
		{"bytes with a sign", "\x80", "\x7f", false},
		{"To of MaxKey just above From of one less", longA[:15], longA, true},
		{"and the other way round", longA, longA[:15], false},
	} {
		for _, limit := range []int{math.MinInt, -100, -1, 0, 1, 2, 99, 100, 101, 1000, math.MaxInt} {
			want := x.want && limit >= 1 && limit <= 100
			if got := omap.May(over(x.from, x.to, limit)); got != want {
				t.Errorf("%s, Limit %d: %v", x.name, limit, got)
			}
		}
	}
}

func TestMayOfAllTogether(t *testing.T) { // P12.1
	for kind := -1; kind <= 8; kind++ {
		for _, who := range [][2]int{{0, 0}, {1, 2}, {-1, 0}, {0, -1}, {-1, -1}} {
			for _, k := range []string{"", "a", "b", "b\x00", longA, overA} {
				for _, to := range []string{"", "a", "b", "b\x00", longA, overA} {
					for _, v := range []string{"", "v", fullV, overV} {
						for _, old := range []string{"", "v", fullV, overV} {
							for _, limit := range []int{-1, 0, 1, 100, 101} {
								r := api.Req{
									Client: who[0], Seq: who[1], Kind: kind, Key: []byte(k),
									Val: []byte(v), Old: []byte(old), To: []byte(to), Limit: limit,
								}
								if got := omap.May(r); got != may(r) {
									t.Fatalf("May(%+v): %v", r, got)
								}
							}
						}
					}
				}
			}
		}
	}
}

func TestKindsHaveTheirNumbers(t *testing.T) { // DOC.md, Words
	if !slices.Equal(kinds(), []int{api.OpGet, api.OpPut, api.OpDelete, api.OpAbsent, api.OpSwap, api.OpScan}) {
		t.Error("the kinds have other numbers")
	}
	errs := []api.Code{api.ErrArg, api.ErrNone, api.ErrFull, api.ErrState}
	if !slices.Equal(errs, []api.Code{errArg, errNone, errFull, errState}) {
		t.Error("the errors have other numbers")
	}
}

func TestReads(t *testing.T) { // P12.1
	for _, kind := range []int{
		get, put, del, absent, swap, scan, 0, 7, 8, -1, -5, -6, 9, 16, 100,
		1 << 32, 1<<32 + 1, 1<<32 + 6, math.MinInt, math.MaxInt,
	} {
		want := kind == get || kind == scan
		wrong := api.Req{Client: -1, Seq: -1, Kind: kind, Key: []byte(overA), Val: []byte(overV), Limit: -1}
		for _, r := range []api.Req{{Kind: kind}, one(kind, "a", "v", "w"), wrong} { // it asks for the kind alone
			if got := omap.Reads(r); got != want {
				t.Errorf("Reads(%+v): %v", r, got)
			}
		}
	}
}

// does is a request on pairs, and what it comes to.
type does struct {
	name string
	l    []api.Pair
	r    api.Req
	most int
	then []api.Pair
	res  api.Res
}

func (x does) check(t *testing.T) {
	t.Run(x.name, func(t *testing.T) { checkDo(t, x.l, x.r, x.most, x.then, x.res) })
}

func TestGet(t *testing.T) { // P12.2
	l := pairs("b", "1", "d", "2", "f", "3")
	for _, x := range []does{
		{"of none", nil, one(get, "a"), 9, nil, api.Res{}},
		{"of one, there", pairs("a", "1"), one(get, "a"), 9, pairs("a", "1"), there("1")},
		{"of one, below", pairs("b", "1"), one(get, "a"), 9, pairs("b", "1"), api.Res{}},
		{"of one, above", pairs("b", "1"), one(get, "c"), 9, pairs("b", "1"), api.Res{}},
		{"the least one", l, one(get, "b"), 9, l, there("1")},
		{"the one between", l, one(get, "d"), 9, l, there("2")},
		{"the greatest one", l, one(get, "f"), 9, l, there("3")},
		{"below all", l, one(get, "a"), 9, l, api.Res{}},
		{"between two", l, one(get, "c"), 9, l, api.Res{}},
		{"above all", l, one(get, "g"), 9, l, api.Res{}},
		{"one that another one begins with", pairs("ab", "1"), one(get, "a"), 9, pairs("ab", "1"), api.Res{}},
		{"one that begins with another one", pairs("a", "1"), one(get, "ab"), 9, pairs("a", "1"), api.Res{}},
		{"an empty value", pairs("a", ""), one(get, "a"), 9, pairs("a", ""), there("")},
		{"a value of MaxVal", pairs(longA, fullV), one(get, longA), 9, pairs(longA, fullV), there(fullV)},
		{"Val and Old play no part", l, one(get, "d", "x", "y"), 9, l, there("2")},
		{"no room", l, one(get, "d"), 0, l, there("2")},
		{"no room, not there", l, one(get, "c"), 0, l, api.Res{}},
		{"less room than none", l, one(get, "c"), -1, l, api.Res{}},
	} {
		x.check(t)
	}
}

func TestPut(t *testing.T) { // P12.2
	l := pairs("b", "1", "d", "2", "f", "3")
	for _, x := range []does{
		{"to none", nil, one(put, "a", "1"), 9, pairs("a", "1"), api.Res{}},
		{"to none, with room for one", nil, one(put, "a", "1"), 1, pairs("a", "1"), api.Res{}},
		{"to none, without room", nil, one(put, "a", "1"), 0, nil, code(errFull)},
		{"to none, less room than none", nil, one(put, "a", "1"), -1, nil, code(errFull)},
		{"the least one anew", l, one(put, "b", "9"), 9, pairs("b", "9", "d", "2", "f", "3"), there("1")},
		{"the one between anew", l, one(put, "d", "9"), 9, pairs("b", "1", "d", "9", "f", "3"), there("2")},
		{"the greatest one anew", l, one(put, "f", "9"), 9, pairs("b", "1", "d", "2", "f", "9"), there("3")},
		{"the same value", l, one(put, "d", "2"), 9, l, there("2")},
		{"below all", l, one(put, "a", "9"), 9, pairs("a", "9", "b", "1", "d", "2", "f", "3"), api.Res{}},
		{"between two", l, one(put, "c", "9"), 9, pairs("b", "1", "c", "9", "d", "2", "f", "3"), api.Res{}},
		{"above all", l, one(put, "g", "9"), 9, pairs("b", "1", "d", "2", "f", "3", "g", "9"), api.Res{}},
		{"a new one, one more may be", l, one(put, "c", "9"), 4, pairs("b", "1", "c", "9", "d", "2", "f", "3"), api.Res{}},
		{"a new one, just as many", l, one(put, "c", "9"), 3, l, code(errFull)},
		{"a new one, one fewer", l, one(put, "c", "9"), 2, l, code(errFull)},
		{"a new one, none may be", l, one(put, "c", "9"), 0, l, code(errFull)},
		{"a new one, below 0", l, one(put, "c", "9"), -1, l, code(errFull)},
		{"a new one, far below 0", l, one(put, "c", "9"), math.MinInt, l, code(errFull)},
		{"a new one, the most that can be told", l, one(put, "g", "9"), math.MaxInt, pairs("b", "1", "d", "2", "f", "3", "g", "9"), api.Res{}},
		{"one that is there, just as many", l, one(put, "d", "9"), 3, pairs("b", "1", "d", "9", "f", "3"), there("2")},
		{"one that is there, one fewer", l, one(put, "d", "9"), 2, pairs("b", "1", "d", "9", "f", "3"), there("2")},
		{"one that is there, none may be", l, one(put, "d", "9"), 0, pairs("b", "1", "d", "9", "f", "3"), there("2")},
		{"one that is there, below 0", l, one(put, "d", "9"), -1, pairs("b", "1", "d", "9", "f", "3"), there("2")},
		{"an empty value", l, one(put, "d"), 9, pairs("b", "1", "d", "", "f", "3"), there("2")},
		{"in place of an empty value", pairs("a", ""), one(put, "a", "1"), 9, pairs("a", "1"), there("")},
		{"of MaxKey and MaxVal", nil, one(put, longA, fullV), 9, pairs(longA, fullV), api.Res{}},
		{"Old plays no part", l, one(put, "d", "9", "no"), 9, pairs("b", "1", "d", "9", "f", "3"), there("2")},
	} {
		x.check(t)
	}
}

func TestDelete(t *testing.T) { // P12.2
	l := pairs("b", "1", "d", "2", "f", "3")
	for _, x := range []does{
		{"of none", nil, one(del, "a"), 9, nil, api.Res{}},
		{"the only one", pairs("a", "1"), one(del, "a"), 9, nil, there("1")},
		{"the least one", l, one(del, "b"), 9, pairs("d", "2", "f", "3"), there("1")},
		{"the one between", l, one(del, "d"), 9, pairs("b", "1", "f", "3"), there("2")},
		{"the greatest one", l, one(del, "f"), 9, pairs("b", "1", "d", "2"), there("3")},
		{"below all", l, one(del, "a"), 9, l, api.Res{}},
		{"between two", l, one(del, "c"), 9, l, api.Res{}},
		{"above all", l, one(del, "g"), 9, l, api.Res{}},
		{"an empty value", pairs("a", ""), one(del, "a"), 9, nil, there("")},
		{"Val and Old play no part", l, one(del, "d", "x", "y"), 9, pairs("b", "1", "f", "3"), there("2")},
		{"just as many", l, one(del, "d"), 3, pairs("b", "1", "f", "3"), there("2")},
		{"none may be", l, one(del, "d"), 0, pairs("b", "1", "f", "3"), there("2")},
		{"below 0", l, one(del, "d"), -1, pairs("b", "1", "f", "3"), there("2")},
		{"not there, none may be", l, one(del, "c"), 0, l, api.Res{}},
	} {
		x.check(t)
	}
}

func TestAbsent(t *testing.T) { // P12.2
	l := pairs("b", "1", "d", "2", "f", "3")
	for _, x := range []does{
		{"to none", nil, one(absent, "a", "1"), 9, pairs("a", "1"), api.Res{}},
		{"to none, with room for one", nil, one(absent, "a", "1"), 1, pairs("a", "1"), api.Res{}},
		{"to none, without room", nil, one(absent, "a", "1"), 0, nil, code(errFull)},
		{"to none, below 0", nil, one(absent, "a", "1"), -1, nil, code(errFull)},
		{"the least one is there", l, one(absent, "b", "9"), 9, l, there("1")},
		{"the one between is there", l, one(absent, "d", "9"), 9, l, there("2")},
		{"the greatest one is there", l, one(absent, "f", "9"), 9, l, there("3")},
		{"one with an empty value is there", pairs("a", ""), one(absent, "a", "9"), 9, pairs("a", ""), there("")},
		{"below all", l, one(absent, "a", "9"), 9, pairs("a", "9", "b", "1", "d", "2", "f", "3"), api.Res{}},
		{"between two", l, one(absent, "c", "9"), 9, pairs("b", "1", "c", "9", "d", "2", "f", "3"), api.Res{}},
		{"above all", l, one(absent, "g", "9"), 9, pairs("b", "1", "d", "2", "f", "3", "g", "9"), api.Res{}},
		{"a new one, one more may be", l, one(absent, "c", "9"), 4, pairs("b", "1", "c", "9", "d", "2", "f", "3"), api.Res{}},
		{"a new one, just as many", l, one(absent, "c", "9"), 3, l, code(errFull)},
		{"a new one, one fewer", l, one(absent, "c", "9"), 2, l, code(errFull)},
		{"a new one, none may be", l, one(absent, "c", "9"), 0, l, code(errFull)},
		{"a new one, below 0", l, one(absent, "c", "9"), math.MinInt, l, code(errFull)},
		{"one that is there, just as many", l, one(absent, "d", "9"), 3, l, there("2")},
		{"one that is there, one fewer", l, one(absent, "d", "9"), 2, l, there("2")},
		{"one that is there, none may be", l, one(absent, "d", "9"), 0, l, there("2")},
		{"one that is there, below 0", l, one(absent, "d", "9"), -1, l, there("2")},
		{"Old plays no part", l, one(absent, "d", "9", "2"), 9, l, there("2")},
		{"an empty value", nil, one(absent, "a"), 9, pairs("a", ""), api.Res{}},
	} {
		x.check(t)
	}
}

func TestAbsentTwice(t *testing.T) { // the chapter's example
	l, first := omap.Do(nil, one(absent, "a", "1"), 9)
	then, second := omap.Do(l, one(absent, "a", "2"), 9)
	if !same(first, api.Res{}) || !same(second, there("1")) || !alike(then, pairs("a", "1")) {
		t.Errorf("%+v, %+v, %q", first, second, then)
	}
	then, both := omap.All(nil, []api.Req{one(absent, "a", "1"), one(absent, "a", "2")}, 9)
	if len(both) != 2 || both[0].Found || !both[1].Found || !alike(then, pairs("a", "1")) {
		t.Errorf("%+v, %q", both, then)
	}
}

func TestSwap(t *testing.T) { // P12.2
	l := pairs("b", "1", "d", "2", "f", "3")
	unlike := func(v string) api.Res { return api.Res{Code: errState, Found: true, Val: []byte(v)} }
	for _, x := range []does{
		{"of none", nil, one(swap, "a", "9", "1"), 9, nil, code(errNone)},
		{"of none, both empty", nil, one(swap, "a"), 9, nil, code(errNone)},
		{"below all", l, one(swap, "a", "9", "1"), 9, l, code(errNone)},
		{"between two", l, one(swap, "c", "9", "1"), 9, l, code(errNone)},
		{"above all", l, one(swap, "g", "9", "3"), 9, l, code(errNone)},
		{"not there, just as many", l, one(swap, "c", "9", "1"), 3, l, code(errNone)},
		{"not there, none may be", l, one(swap, "c", "9", "1"), 0, l, code(errNone)},
		{"not there, below 0", l, one(swap, "c", "9", ""), -1, l, code(errNone)},
		{"the least one is Old", l, one(swap, "b", "9", "1"), 9, pairs("b", "9", "d", "2", "f", "3"), there("1")},
		{"the one between is Old", l, one(swap, "d", "9", "2"), 9, pairs("b", "1", "d", "9", "f", "3"), there("2")},
		{"the greatest one is Old", l, one(swap, "f", "9", "3"), 9, pairs("b", "1", "d", "2", "f", "9"), there("3")},
		{"the least one isn't", l, one(swap, "b", "9", "2"), 9, l, unlike("1")},
		{"the one between isn't", l, one(swap, "d", "9", "1"), 9, l, unlike("2")},
		{"the greatest one isn't", l, one(swap, "f", "9", "2"), 9, l, unlike("3")},
		{"it is Val, not Old", l, one(swap, "d", "2", "9"), 9, l, unlike("2")},
		{"Old is all but it", l, one(swap, "d", "9", ""), 9, l, unlike("2")},
		{"Old begins with it", l, one(swap, "d", "9", "2\x00"), 9, l, unlike("2")},
		{"it begins with Old", pairs("a", "12"), one(swap, "a", "9", "1"), 9, pairs("a", "12"), unlike("12")},
		{"it is empty, Old isn't", pairs("a", ""), one(swap, "a", "9", "1"), 9, pairs("a", ""), unlike("")},
		{"both are empty", pairs("a", ""), one(swap, "a", "9", ""), 9, pairs("a", "9"), there("")},
		{"all three are empty", pairs("a", ""), one(swap, "a"), 9, pairs("a", ""), there("")},
		{"the value is nil, Old is empty", []api.Pair{{Key: []byte("a")}}, one(swap, "a", "9", ""), 9, pairs("a", "9"), there("")},
		{"the value is empty, Old is nil", pairs("a", ""), one(swap, "a", "9"), 9, pairs("a", "9"), there("")},
		{"to an empty value", l, one(swap, "d", "", "2"), 9, pairs("b", "1", "d", "", "f", "3"), there("2")},
		{"to the same value", l, one(swap, "d", "2", "2"), 9, l, there("2")},
		{"it is Old, just as many", l, one(swap, "d", "9", "2"), 3, pairs("b", "1", "d", "9", "f", "3"), there("2")},
		{"it is Old, none may be", l, one(swap, "d", "9", "2"), 0, pairs("b", "1", "d", "9", "f", "3"), there("2")},
		{"it is Old, below 0", l, one(swap, "d", "9", "2"), -1, pairs("b", "1", "d", "9", "f", "3"), there("2")},
		{"it isn't, none may be", l, one(swap, "d", "9", "1"), 0, l, unlike("2")},
		{"of MaxVal", pairs("a", fullV), one(swap, "a", fullV[1:]+"w", fullV), 9, pairs("a", fullV[1:]+"w"), there(fullV)},
		{"of MaxVal, but for the last byte", pairs("a", fullV), one(swap, "a", "9", fullV[1:]+"w"), 9, pairs("a", fullV), unlike(fullV)},
	} {
		x.check(t)
	}
}

func TestScan(t *testing.T) { // P12.2
	l := pairs("b", "1", "d", "2", "f", "3", "h", "4")
	rows := func(texts ...string) api.Res { return api.Res{Rows: pairs(texts...)} }
	for _, x := range []does{
		{"of none", nil, over("", "", 9), 9, nil, rows()},
		{"of one", pairs("a", "1"), over("", "", 9), 9, pairs("a", "1"), rows("a", "1")},
		{"of one, one at most", pairs("a", "1"), over("", "", 1), 9, pairs("a", "1"), rows("a", "1")},
		{"all", l, over("", "", 9), 9, l, rows("b", "1", "d", "2", "f", "3", "h", "4")},
		{"as many as Limit", l, over("", "", 4), 9, l, rows("b", "1", "d", "2", "f", "3", "h", "4")},
		{"one more than Limit", l, over("", "", 3), 9, l, rows("b", "1", "d", "2", "f", "3")},
		{"one at most", l, over("", "", 1), 9, l, rows("b", "1")},
		{"no From", l, over("", "f", 9), 9, l, rows("b", "1", "d", "2")},
		{"no To", l, over("d", "", 9), 9, l, rows("d", "2", "f", "3", "h", "4")},
		{"no To, two at most", l, over("d", "", 2), 9, l, rows("d", "2", "f", "3")},
		{"ends that are keys that are there", l, over("d", "h", 9), 9, l, rows("d", "2", "f", "3")},
		{"ends that aren't", l, over("c", "g", 9), 9, l, rows("d", "2", "f", "3")},
		{"To just above a key", l, over("d", "f\x00", 9), 9, l, rows("d", "2", "f", "3")},
		{"From just above a key", l, over("b\x00", "f", 9), 9, l, rows("d", "2")},
		{"one key alone", l, over("d", "d\x00", 9), 9, l, rows("d", "2")},
		{"in the range, as many as Limit", l, over("c", "g", 2), 9, l, rows("d", "2", "f", "3")},
		{"in the range, more than Limit", l, over("c", "g", 1), 9, l, rows("d", "2")},
		{"none between two", l, over("b\x00", "d", 9), 9, l, rows()},
		{"none below all", l, over("", "b", 9), 9, l, rows()},
		{"none above all", l, over("h\x00", "", 9), 9, l, rows()},
		{"ends of MaxKey", pairs(longA, "1", longZ, "2"), over(longA, longZ, 9), 9, pairs(longA, "1", longZ, "2"), rows(longA, "1")},
		{"From empty, the least To", pairs("\x00", "1"), over("", "\x00", 9), 9, pairs("\x00", "1"), rows()},
		{"none may be", l, over("d", "h", 9), 0, l, rows("d", "2", "f", "3")},
		{"below 0", l, over("d", "h", 9), -1, l, rows("d", "2", "f", "3")},
		{"MaxRows", l, over("d", "h", 100), 9, l, rows("d", "2", "f", "3")},
	} {
		x.check(t)
	}
	with := changed(over("d", "h", 9), func(r *api.Req) { r.Val, r.Old = []byte("2"), []byte(fullV) })
	checkDo(t, l, with, 9, l, rows("d", "2", "f", "3")) // Val and Old play no part
}

func TestScanOfAsManyAsMaxRows(t *testing.T) { // P12.2
	l := manyRow(1000)
	for _, limit := range []int{1, 2, 99, 100} {
		for _, from := range []int{0, 1, 500, 1798, 1799, 1800, 1801, 1802, 1998, 1999, 2000, 2001} {
			first := min(from/2, 1000) // key 2i + 1 is pair i's
			want := l[first:min(first+limit, 1000)]
			checkDo(t, l, over(manyKey(from), "", limit), 1000, l, api.Res{Rows: want})
		}
	}
	checkDo(t, l, over("", "", 101), 1000, l, code(errArg))
}

func TestDoOfWhatMayNotBe(t *testing.T) { // P12.2, R1: ErrArg goes ahead of all else
	for _, l := range [][]api.Pair{nil, pairs("b", "1"), pairs("b", "1", "d", "2", "f", "3"), manyRow(1000)} {
		for _, most := range []int{-1, 0, len(l), 1000} {
			for _, kind := range kinds() {
				good := api.Req{Kind: kind, Key: []byte("b"), Limit: 1}
				for _, how := range []func(r *api.Req){
					func(r *api.Req) { r.Client = -1 },
					func(r *api.Req) { r.Seq = -1 },
					func(r *api.Req) { r.Kind = -kind },
					func(r *api.Req) { r.Kind = kind + 6 },
					func(r *api.Req) { r.Kind = 0 },
					func(r *api.Req) { r.Key = []byte(overA) },
					func(r *api.Req) { r.Val = []byte(overV) },
					func(r *api.Req) { r.Old = []byte(overV) },
				} {
					checkDo(t, l, changed(good, how), most, l, code(errArg))
				}
			}
			for _, kind := range single() {
				checkDo(t, l, one(kind, ""), most, l, code(errArg))
			}
			for _, r := range []api.Req{over("b", "b", 1), over("c", "b", 1), over("b", overA, 1), over("", "", 0), over("", "", -1), over("", "", 101)} {
				checkDo(t, l, r, most, l, code(errArg))
			}
		}
	}
}

// vals is what Val and Old may be in a request of a key: its value, and
// others.
func vals(l []api.Pair, k string) [][2]string {
	was := modelOf(l)[k]
	return [][2]string{{"new", was}, {"new", "old"}, {was, was}, {"", ""}, {"", was}, {fullV, "new"}}
}

func TestEachKindOnEachRow(t *testing.T) { // P12.2
	for _, n := range []int{0, 1, 2, 3, 7, 1000} {
		l := manyRow(n)
		asked := []string{"a", manyKey(0), manyKey(1), manyKey(2), manyKey(n), manyKey(n | 1), manyKey(2*n - 1), manyKey(2 * n), "z"}
		for _, most := range []int{math.MinInt, -1, 0, n - 1, n, n + 1, math.MaxInt} {
			for _, k := range asked {
				for _, kind := range single() {
					for _, v := range vals(l, k) {
						checkByModel(t, l, one(kind, k, v[0], v[1]), most)
					}
				}
				for _, limit := range []int{1, 2, n, 100, 101} {
					checkByModel(t, l, over(k, "", limit), most)
					checkByModel(t, l, over("", k, limit), most)
					checkByModel(t, l, over(k, manyKey(n+1), limit), most)
				}
			}
		}
	}
}

func TestFullMapHasNoRoom(t *testing.T) { // P12.2: MaxPairs, and room for no more
	l := manyRow(1000)
	for _, kind := range []int{put, absent} {
		for _, k := range []string{"a", manyKey(1000), "z"} {
			checkDo(t, l, one(kind, k, "v"), 1000, l, code(errFull))
			then, res := omap.Do(l, one(kind, k, "v"), 1001)
			if len(then) != 1001 || !isRow(then) || !same(res, api.Res{}) {
				t.Errorf("kind %d, key %q, with room for one more: %d pairs, %+v", kind, k, len(then), res)
			}
		}
	}
}

// someReq is a request of any kind, that mostly may be.
func someReq(draw func(int) int, l []api.Pair) api.Req {
	pick := func(from []string) []byte { return []byte(from[draw(len(from))]) }
	r := api.Req{Client: draw(3), Seq: draw(100), Kind: 1 + draw(6), Key: pick(keys()), Val: pick(values())}
	r.Old = pick(values())
	if len(l) > 0 && draw(2) == 0 { // a key that is there, and often its value
		p := l[draw(len(l))]
		r.Key = bytes.Clone(p.Key)
		if draw(3) > 0 {
			r.Old = bytes.Clone(p.Val)
		}
	}
	if r.Kind == scan {
		r.Limit = 1 + draw(8)
		r.Key, r.To = pick(append(keys(), "")), pick(append(keys(), "", "", ""))
		if len(r.To) > 0 && order(string(r.Key), string(r.To)) > 0 {
			r.Key, r.To = r.To, r.Key
		}
	}
	if draw(30) == 0 {
		wrong := []func(){
			func() { r.Client = -1 }, func() { r.Seq = -1 }, func() { r.Kind = 7 * draw(2) },
			func() { r.Key = []byte(overA) }, func() { r.Val = []byte(overV) }, func() { r.Old = []byte(overV) },
			func() { r.Kind, r.Limit = scan, 101*draw(2) }, func() { r.Kind, r.Key = 1+draw(5), nil },
		}
		wrong[draw(len(wrong))]()
	}
	return r
}

// way is how a request may go.
type way struct {
	kind, code int
	found      bool
}

// waysOf is all ways in which requests that may be can go.
func waysOf() []way {
	return []way{
		{get, 0, false}, {get, 0, true}, {put, 0, false}, {put, 0, true}, {put, errFull, false},
		{del, 0, false}, {del, 0, true}, {absent, 0, false}, {absent, 0, true}, {absent, errFull, false},
		{swap, errNone, false}, {swap, errState, true}, {swap, 0, true}, {scan, 0, false},
	}
}

func TestDoAgreesWithAMap(t *testing.T) { // P12.2, P12.4
	draw := draws()
	seen := map[way]int{}
	for _, most := range []int{0, 1, 2, 3, 5, 8, 12, 1000} {
		var l []api.Pair
		m := model{}
		for range 3000 {
			r, room := someReq(draw, l), most
			if draw(10) == 0 {
				room = draw(len(l)+3) - 1
			}
			then, res := omap.Do(l, r, room)
			want := m.do(r, room)
			if !same(res, want) || !alike(then, m.pairs()) || !isRow(then) {
				t.Fatalf("Do(%q, %+v, %d): %q, %+v, not %q, %+v", l, r, room, then, res, m.pairs(), want)
			}
			seen[way{r.Kind, res.Code, res.Found}]++
			l = then
		}
	}
	for _, w := range waysOf() {
		if seen[w] < 20 {
			t.Errorf("%+v was seen %d times", w, seen[w])
		}
	}
}

func TestAllAgreesWithAMap(t *testing.T) { // P12.2, P12.4
	draw := draws()
	seen := map[way]int{}
	var l []api.Pair
	for range 1500 {
		var reqs []api.Req
		for range draw(25) {
			reqs = append(reqs, someReq(draw, l))
		}
		most := draw(len(l)+8) - 1
		then, all := omap.All(l, reqs, most)
		m := modelOf(l)
		if len(all) != len(reqs) {
			t.Fatalf("%d answers of %d requests", len(all), len(reqs))
		}
		for i, r := range reqs {
			if want := m.do(r, most); !same(all[i], want) {
				t.Fatalf("All(%q, %+v, %d): answer %d is %+v, not %+v", l, reqs, most, i, all[i], want)
			}
			seen[way{r.Kind, all[i].Code, all[i].Found}]++
		}
		if !alike(then, m.pairs()) || !isRow(then) {
			t.Fatalf("All(%q, %+v, %d): %q, not %q", l, reqs, most, then, m.pairs())
		}
		l = then
	}
	for _, w := range waysOf() {
		if seen[w] < 20 {
			t.Errorf("%+v was seen %d times", w, seen[w])
		}
	}
}

func TestAllIsDoOneBehindTheOther(t *testing.T) { // P12.2
	draw := draws()
	for range 500 {
		l := manyRow(draw(6))
		var reqs []api.Req
		for range draw(12) {
			reqs = append(reqs, someReq(draw, l))
		}
		most := draw(12)
		then, all := omap.All(l, reqs, most)
		behind := l
		for i, r := range reqs {
			var res api.Res
			behind, res = omap.Do(behind, r, most)
			if len(all) != len(reqs) || !same(all[i], res) {
				t.Fatalf("of %q, %+v, %d: %+v, and Do %+v", l, reqs, most, all, res)
			}
		}
		if !alike(then, behind) {
			t.Fatalf("of %q, %+v, %d: %q, and Do %q", l, reqs, most, then, behind)
		}
	}
}

// checkAll holds what All tells of requests against pairs and answers.
func checkAll(t *testing.T, l []api.Pair, reqs []api.Req, most int, then []api.Pair, want ...api.Res) {
	t.Helper()
	got, all := omap.All(l, reqs, most)
	if !alike(got, then) || !slices.EqualFunc(all, want, same) {
		t.Errorf("All(%q, %+v, %d): %q, %+v, not %q, %+v", l, reqs, most, got, all, then, want)
	}
}

func TestAllOfNoRequests(t *testing.T) { // P12.2
	for _, l := range [][]api.Pair{nil, {}, pairs("a", "1"), pairs("a", "1", "b", ""), manyRow(1000)} {
		for _, most := range []int{-1, 0, 1, 2, 1000} {
			checkAll(t, l, nil, most, l)
			checkAll(t, l, []api.Req{}, most, l)
		}
	}
}

func TestAllGoesOnBehindErrors(t *testing.T) { // P12.2
	l := pairs("b", "1", "d", "2")
	checkAll(t, l, []api.Req{
		one(put, "a", "0"),      // new, and room
		{},                      // may not be
		one(put, "c", "3"),      // no room any more
		one(swap, "z", "", ""),  // isn't there
		one(swap, "b", "9", ""), // isn't Old
		one(del, "d"),           // there is room again
		one(absent, "c", "4"),   // new, and room
		over("", "", 101),       // may not be
		over("", "", 100),       // all
	}, 3, pairs("a", "0", "b", "1", "c", "4"),
		api.Res{}, code(errArg), code(errFull), code(errNone),
		api.Res{Code: errState, Found: true, Val: []byte("1")},
		there("2"), api.Res{}, code(errArg),
		api.Res{Rows: pairs("a", "0", "b", "1", "c", "4")})
	checkAll(t, l, []api.Req{{}, one(get, ""), one(put, overA)}, 9, l, code(errArg), code(errArg), code(errArg))
	checkAll(t, l, []api.Req{{}, one(get, "b")}, 9, l, code(errArg), there("1"))
}

func TestAllOfOneKey(t *testing.T) { // P12.2: each sees what the one before it left
	checkAll(t, nil, []api.Req{
		one(get, "a"),
		one(put, "a", "1"),
		one(get, "a"),
		one(put, "a", "2"),
		one(absent, "a", "3"),
		one(swap, "a", "4", "1"),
		one(swap, "a", "4", "2"),
		one(swap, "a", "5", "4"),
		over("a", "", 1),
		one(del, "a"),
		one(del, "a"),
		one(swap, "a", "6", "5"),
		over("a", "", 1),
		one(absent, "a", "7"),
		one(get, "a"),
	}, 1, pairs("a", "7"),
		api.Res{}, api.Res{}, there("1"), there("1"), there("2"),
		api.Res{Code: errState, Found: true, Val: []byte("2")}, there("2"), there("4"),
		api.Res{Rows: pairs("a", "5")}, there("5"), api.Res{}, code(errNone),
		api.Res{}, api.Res{}, there("7"))
	checkAll(t, pairs("a", "1"), []api.Req{one(del, "a"), one(put, "a", "2"), one(del, "a"), one(put, "b", "3"), one(put, "a", "4")},
		1, pairs("b", "3"), there("1"), api.Res{}, there("2"), api.Res{}, code(errFull))
}

func TestAllFillsAMap(t *testing.T) { // P12.2: up to as many as may be, and empties it
	var puts, dels []api.Req
	for i := range 1005 {
		kind := []int{put, absent}[i%2]
		puts = append(puts, one(kind, manyKey(i*701%1005), strconv.Itoa(i)))
		dels = append(dels, one(del, manyKey(i)))
	}
	l, all := omap.All(nil, puts, 1000)
	for i, res := range all {
		if i < 1000 && !same(res, api.Res{}) || i >= 1000 && !same(res, code(errFull)) {
			t.Fatalf("put %d: %+v", i, res)
		}
	}
	if len(all) != 1005 || len(l) != 1000 || !isRow(l) {
		t.Fatalf("%d answers, %d pairs", len(all), len(l))
	}
	m := modelOf(l)
	l, all = omap.All(l, dels, 1000)
	for i, res := range all {
		if v, is := m[manyKey(i)]; res.Found != is || string(res.Val) != v || res.Code != 0 {
			t.Fatalf("delete %d: %+v", i, res)
		}
	}
	if len(all) != 1005 || len(l) != 0 {
		t.Fatalf("%d answers, %q", len(all), l)
	}
}

func TestErrorsChangeNothing(t *testing.T) { // P12.4
	draw := draws()
	seen := map[int]int{}
	for range 4000 {
		l := someRow(draw)
		r, most := someReq(draw, l), draw(len(l)+2)-1
		then, res := omap.Do(l, r, most)
		if res.Code == 0 {
			continue
		}
		seen[res.Code]++
		if !alike(then, l) {
			t.Fatalf("Do(%q, %+v, %d): Code %d, and %q", l, r, most, res.Code, then)
		}
		alone := api.Res{Code: res.Code}
		if res.Code != errState && !same(res, alone) {
			t.Fatalf("Do(%q, %+v, %d): %+v", l, r, most, res) // the Code alone
		}
		if res.Code == errState && (!res.Found || len(res.Rows) > 0 || res.Stamp != 0) {
			t.Fatalf("Do(%q, %+v, %d): %+v", l, r, most, res)
		}
	}
	for _, n := range []int{errArg, errNone, errFull, errState} {
		if seen[n] < 20 {
			t.Errorf("Code %d was seen %d times", n, seen[n])
		}
	}
}

func TestWhatReadsChangesNothing(t *testing.T) { // P12.4
	draw := draws()
	for range 2000 {
		l := someRow(draw)
		r := someReq(draw, l)
		if !omap.Reads(r) {
			continue
		}
		for _, most := range []int{-1, 0, len(l), 1000} {
			if then, _ := omap.Do(l, r, most); !alike(then, l) {
				t.Fatalf("Do(%q, %+v, %d): %q", l, r, most, then)
			}
			if then, _ := omap.All(l, []api.Req{r, r}, most); !alike(then, l) {
				t.Fatalf("All(%q, %+v, %d): %q", l, r, most, then)
			}
		}
	}
}

// someRow is a row of some of the keys, with any values.
func someRow(draw func(int) int) []api.Pair {
	m := model{}
	for range draw(8) {
		m[keys()[draw(len(keys()))]] = values()[draw(len(values()))]
	}
	return m.pairs()
}

func TestPairsStayARow(t *testing.T) { // P12.4
	draw := draws()
	for range 3000 {
		l := someRow(draw)
		if !isRow(l) {
			t.Fatalf("%q is no row to begin with", l)
		}
		r := someReq(draw, l)
		then, res := omap.Do(l, r, draw(10)-1)
		if !isRow(then) || !isRow(res.Rows) || len(res.Val) > 32 {
			t.Fatalf("Do(%q, %+v): %q, %+v", l, r, then, res)
		}
	}
}

// eachSingle is requests of a key of each kind that is no scan, of some values.
func eachSingle(k string) []api.Req {
	var l []api.Req
	for _, kind := range single() {
		for _, v := range []string{"", "1", "2"} {
			for _, old := range []string{"", "1", "2"} {
				if kind == swap || old == "" {
					l = append(l, one(kind, k, v, old))
				}
			}
		}
	}
	return l
}

// eachRow is all rows of some keys, each with one of two values or not there.
func eachRow(keys ...string) [][]api.Pair {
	rows := [][]api.Pair{nil}
	for _, k := range keys {
		for _, l := range slices.Clone(rows) {
			rows = append(rows, slices.Concat(l, pairs(k, "1")), slices.Concat(l, pairs(k, "")))
		}
	}
	return rows
}

func TestEitherOrder(t *testing.T) { // P12.4: two requests of unlike keys, with just room for both
	for _, l := range eachRow("b", "c", "d") {
		m := modelOf(l)
		for _, k := range [][2]string{{"b", "c"}, {"b", "d"}, {"d", "bb"}, {"a", "e"}, {"b", "b\x00"}} {
			most := len(l)
			for _, x := range k {
				if _, is := m[x]; !is {
					most++
				}
			}
			for _, a := range eachSingle(k[0]) {
				for _, b := range eachSingle(k[1]) {
					then, one := omap.All(l, []api.Req{a, b}, most)
					back, two := omap.All(l, []api.Req{b, a}, most)
					if !alike(then, back) || !same(one[0], two[1]) || !same(one[1], two[0]) {
						t.Fatalf("%+v, %+v on %q: %q, %+v, and back %q, %+v", a, b, l, then, one, back, two)
					}
				}
			}
		}
	}
}

func TestAnyOrder(t *testing.T) { // P12.4: many requests of unlike keys, with room for all
	draw := draws()
	for range 500 {
		l := someRow(draw)
		var reqs []api.Req
		for _, k := range keys() {
			if r := someReq(draw, l); r.Kind != scan {
				r.Key = []byte(k)
				reqs = append(reqs, r)
			}
		}
		then, all := omap.All(l, reqs, len(keys()))
		var mixed []int
		for i := range reqs {
			mixed = slices.Insert(mixed, draw(i+1), i)
		}
		behind := l
		for _, i := range mixed {
			var res api.Res
			behind, res = omap.Do(behind, reqs[i], len(keys()))
			if !same(res, all[i]) {
				t.Fatalf("%+v on %q: %+v, and in another order %+v", reqs[i], l, all[i], res)
			}
		}
		if !alike(then, behind) {
			t.Fatalf("%+v on %q: %q, and in another order %q", reqs, l, then, behind)
		}
	}
}

func TestAllArguments(t *testing.T) { // P1: of pairs that are no row too
	huge := strings.Repeat("h", 1<<12)
	lists := [][]api.Pair{
		nil, {}, {{}}, {{}, {}, {}}, pairs("a", "1"), pairs("c", "1", "b", "2", "a", "3"),
		pairs("a", "1", "a", "2", "a", "3"), pairs(huge, huge, "", overV), pairs("", "", "a", "", "", ""),
		pairs("b", "1", "d", "2", "c", "3", "a", "4"), manyRow(100),
	}
	ends := [][]byte{nil, {}, []byte("a"), []byte("c"), {0}, {0xff}, []byte(longA), []byte(overA), []byte(huge)}
	var reqs []api.Req
	for _, kind := range []int{math.MinInt, -1, 0, 1, 2, 3, 4, 5, 6, 7, math.MaxInt} {
		for _, k := range ends {
			for i, v := range ends {
				for _, n := range []int{math.MinInt, -1, 0, 1, 100, 101, math.MaxInt} {
					old := ends[(i+1)%len(ends)]
					reqs = append(reqs, api.Req{Kind: kind, Key: k, Val: v, Old: v, To: old, Limit: n, Client: max(n, 0)})
					reqs = append(reqs, api.Req{Kind: kind, Key: k, Val: v, Old: old, To: v, Limit: n, Client: n, Seq: n})
				}
			}
		}
	}
	for _, l := range lists {
		for _, r := range reqs {
			for _, most := range []int{math.MinInt, 0, 2, math.MaxInt} {
				_, res := omap.Do(l, r, most)
				if got := omap.May(r); got != may(r) || got == (res.Code == errArg) {
					t.Fatalf("May(%+v): %v, and Do's Code %d", r, got, res.Code)
				}
			}
			omap.Reads(r)
		}
		if _, all := omap.All(l, reqs[:2000], 5); len(all) != 2000 {
			t.Errorf("%d answers of 2000 requests", len(all))
		}
	}
}

func TestWrongRequestsLeaveWhatIsNoRow(t *testing.T) { // P12.2, P12.4: they are told as they were
	for _, l := range [][]api.Pair{{{}}, pairs("c", "1", "a", "2"), pairs("a", "1", "a", "2"), pairs(overA, overV)} {
		for _, r := range []api.Req{{}, one(put, ""), one(put, overA, "v"), over("", "", 0)} {
			checkDo(t, l, r, 9, l, code(errArg))
		}
	}
}
