package row_test

import (
	"bytes"
	"errors"
	"math"
	"slices"
	"strconv"
	"strings"
	"testing"

	"garnet/api"
	"garnet/row"
)

// Keys of MaxKey bytes and of one more, values of MaxVal bytes and of one more.
const (
	longA = "aaaaaaaaaaaaaaaa"
	longZ = "zzzzzzzzzzzzzzzz"
	overA = longA + "a"
	fullV = "vvvvvvvvvvvvvvvvvvvvvvvvvvvvvvvv"
	overV = fullV + "v"
)

// pairs is pairs, told by texts: a key and a value each.
func pairs(texts ...string) []api.Pair {
	var l []api.Pair
	for i := 0; i < len(texts); i += 2 {
		l = append(l, api.Pair{Key: []byte(texts[i]), Val: []byte(texts[i+1])})
	}
	return l
}

// texts is what pairs tells, the other way round.
func texts(l []api.Pair) []string {
	var out []string
	for _, p := range l {
		out = append(out, string(p.Key), string(p.Val))
	}
	return out
}

// are tells whether pairs are just those of these texts.
func are(l []api.Pair, want ...string) bool { return slices.Equal(texts(l), want) }

func rng(from, to string) api.Range {
	return api.Range{From: []byte(from), To: []byte(to)}
}

// order is chapter 5's, byte by byte.
func order(a, b string) int {
	for i := 0; i < len(a) && i < len(b); i++ {
		if a[i] < b[i] {
			return -1
		}
		if a[i] > b[i] {
			return 1
		}
	}
	return min(1, max(-1, len(a)-len(b)))
}

// lies is chapter 5's word of a key in a range.
func lies(from, to, k string) bool {
	return order(k, from) >= 0 && (to == "" || order(to, k) > 0)
}

// isRow is the chapter's word of a row.
func isRow(l []api.Pair) bool {
	for i, p := range l {
		if len(p.Key) < 1 || len(p.Key) > 16 || len(p.Val) > 32 {
			return false
		}
		if i > 0 && order(string(l[i-1].Key), string(p.Key)) != -1 {
			return false
		}
	}
	return true
}

// keys is keys of all kinds, rising: the least and the greatest byte, those
// that others begin with, no UTF-8, of MaxKey bytes.
func keys() []string {
	l := []string{
		"\x00", "\x00\x00", "\x01", "B", "a", "a\x00", "aa", "ab", "b", "ba", "c", "m", "\x7f",
		"\x80", "\xff", "\xff\x00", "\xff\xff", longA[:15], longA, longA[:15] + "b", longZ,
		strings.Repeat("\x00", 16), strings.Repeat("\xff", 16),
	}
	slices.SortFunc(l, order)
	return l
}

// words is keys, and what may be none.
func words() []string {
	return append(keys(), "", overA, longZ+"z", strings.Repeat("\x00", 17), strings.Repeat("\xff", 17))
}

// values is values of all kinds.
func values() []string { return []string{"", "v", "w", "\x00", "\xff\xfe", "a", fullV} }

// draws is numbers that look like chance and are the same in each run.
func draws() func(k int) int {
	seed := uint64(1)
	return func(k int) int {
		seed = seed*6364136223846793005 + 1442695040888963407
		return int(seed>>33) % k
	}
}

// someRow is a row of about one in so many of the keys, with any values.
func someRow(draw func(int) int, one int) []api.Pair {
	var l []api.Pair
	for _, k := range keys() {
		if draw(one) == 0 {
			v := values()[draw(len(values()))]
			l = append(l, api.Pair{Key: []byte(k), Val: []byte(v)})
		}
	}
	return l
}

// manyKey is a key of the many that long rows have; they rise with n.
func manyKey(n int) string { return string([]byte{byte(n >> 16), byte(n >> 8), byte(n)}) }

// manyRow is a row of so many pairs: each second key.
func manyRow(n int) []api.Pair {
	var l []api.Pair
	for i := range n {
		l = append(l, api.Pair{Key: []byte(manyKey(2 * i)), Val: []byte(strconv.Itoa(i))})
	}
	return l
}

func TestIs(t *testing.T) { // P6.1
	for _, x := range []struct {
		name string
		l    []api.Pair
		want bool
	}{
		{"none", nil, true},
		{"none, but room for some", make([]api.Pair, 0, 4), true},
		{"one", pairs("a", "1"), true},
		{"one, no value", []api.Pair{{Key: []byte("a")}}, true},
		{"one, an empty value", pairs("a", ""), true},
		{"many", pairs("a", "1", "b", "1", "c", "0"), true},
		{"a key that another one begins with", pairs("a", "", "a\x00", "", "aa", "", "ab", "", "b", ""), true},
		{"and the other way round", pairs("ab", "", "a", ""), false},
		{"by bytes, not by lengths", pairs("aa", "", "b", ""), true},
		{"by lengths", pairs("b", "", "aa", ""), false},
		{"bytes have no sign", pairs("\x7f", "", "\x80", ""), true},
		{"bytes with a sign", pairs("\x80", "", "\x7f", ""), false},
		{"a key of MaxKey", pairs(longA, "1"), true},
		{"a key of one more", pairs(overA, "1"), false},
		{"a key of one more, the last one", pairs("a", "1", overA, "1"), false},
		{"a key of one more, in the middle", pairs("a", "1", overA, "1", "b", "1"), false},
		{"a key of no byte", pairs("", "1"), false},
		{"a key of no byte ahead of others", pairs("", "1", "a", "1"), false},
		{"zero pairs", make([]api.Pair, 2), false},
		{"a zero pair", make([]api.Pair, 1), false},
		{"a value of MaxVal", pairs("a", fullV), true},
		{"a value of one more", pairs("a", overV), false},
		{"a value of one more, the first one's", pairs("a", overV, "b", ""), false},
		{"a value of one more, in the middle", pairs("a", "", "b", overV, "c", ""), false},
		{"a value of one more, the last one's", pairs("a", "", "b", overV), false},
		{"two of the same key", pairs("a", "1", "a", "2"), false},
		{"two of the same key and value", pairs("a", "1", "a", "1"), false},
		{"two of the same key at the end", pairs("a", "1", "b", "1", "b", "2"), false},
		{"a key that falls", pairs("b", "1", "a", "2"), false},
		{"a key that falls in the middle", pairs("a", "", "c", "", "b", "", "d", ""), false},
		{"a key that falls at the end", pairs("a", "", "b", "", "c", "", "a", ""), false},
		{"a key of a great many bytes", pairs(strings.Repeat("a", 1<<20), ""), false},
		{"a value of a great many bytes", pairs("a", strings.Repeat("a", 1<<20)), false},
	} {
		if got := row.Is(x.l); got != x.want {
			t.Errorf("%s: Is(%q): %v", x.name, x.l, got)
		}
	}
}

func TestIsOfAnyTwo(t *testing.T) { // P6.1
	for _, a := range words() {
		for _, b := range words() {
			for _, v := range append(values(), overV) {
				l := pairs(a, "1", b, v)
				if got, want := row.Is(l), isRow(l); got != want {
					t.Errorf("Is(%q): %v", l, got)
				}
			}
		}
	}
}

func TestIsWithOneChanged(t *testing.T) { // P6.1
	draw := draws()
	rows := 0
	for range 2000 {
		l := someRow(draw, 3)
		if !row.Is(l) {
			t.Fatalf("Is(%q): false", l)
		}
		if len(l) == 0 {
			continue
		}
		l[draw(len(l))].Key = []byte(words()[draw(len(words()))])
		got, want := row.Is(l), isRow(l)
		if got != want {
			t.Fatalf("Is(%q): %v", l, got)
		}
		if want {
			rows++
		}
	}
	if rows < 100 || rows > 1900 {
		t.Errorf("only one kind was seen: %d rows", rows)
	}
}

func TestIsOfVeryMany(t *testing.T) { // P6.1: a row has no limit of its own
	l := manyRow(20000)
	if !row.Is(l) {
		t.Error("20000 rising pairs are no row")
	}
	l[19999].Key = l[19998].Key
	if row.Is(l) {
		t.Error("the last of 20000 pairs has the key of the one ahead")
	}
}

func TestFind(t *testing.T) { // P6.1
	for _, x := range []struct {
		name string
		l    []api.Pair
		k    string
		at   int
		is   bool
	}{
		{"of none", nil, "a", 0, false},
		{"of one, ahead", pairs("b", ""), "a", 0, false},
		{"of one, there", pairs("b", ""), "b", 0, true},
		{"of one, behind", pairs("b", ""), "c", 1, false},
		{"ahead of all", pairs("b", "", "d", "", "f", ""), "a", 0, false},
		{"the first one", pairs("b", "", "d", "", "f", ""), "b", 0, true},
		{"between two", pairs("b", "", "d", "", "f", ""), "c", 1, false},
		{"the middle one", pairs("b", "", "d", "", "f", ""), "d", 1, true},
		{"between the last two", pairs("b", "", "d", "", "f", ""), "e", 2, false},
		{"the last one", pairs("b", "", "d", "", "f", ""), "f", 2, true},
		{"behind all", pairs("b", "", "d", "", "f", ""), "g", 3, false},
		{"one that another one begins with", pairs("ab", "", "b", ""), "a", 0, false},
		{"one that begins with another one", pairs("a", "", "b", ""), "ab", 1, false},
		{"the shorter one of two", pairs("a", "", "ab", "", "abc", ""), "a", 0, true},
		{"the longer one of two", pairs("a", "", "ab", "", "abc", ""), "ab", 1, true},
		{"just behind one", pairs("a", "", "ab", ""), "a\x00", 1, false},
		{"bytes have no sign", pairs("\x7f", "", "\xff", ""), "\x80", 1, false},
		{"of MaxKey", pairs(longA, "", longZ, ""), longZ, 1, true},
		{"of one more", pairs(longA, "", longZ, ""), overA, 1, false},
		{"of no byte", pairs("\x00", "", "a", ""), "", 0, false},
		{"a value counts for nothing", pairs("a", "c", "b", "a"), "c", 2, false},
	} {
		at, is := row.Find(x.l, []byte(x.k))
		if at != x.at || is != x.is {
			t.Errorf("%s: Find(%q, %q): %d, %v", x.name, x.l, x.k, at, is)
		}
	}
	if at, is := row.Find(pairs("a", ""), nil); at != 0 || is {
		t.Errorf("Find of nil: %d, %v", at, is)
	}
}

// place is the chapter's word of a key's place.
func place(l []api.Pair, k string) (int, bool) {
	for i, p := range l {
		if c := order(string(p.Key), k); c >= 0 {
			return i, c == 0
		}
	}
	return len(l), false
}

func TestFindInSomeRows(t *testing.T) { // P6.1
	draw := draws()
	for range 500 {
		l := someRow(draw, 1+draw(6))
		for _, k := range words() {
			at, is := row.Find(l, []byte(k))
			if i, ok := place(l, k); at != i || is != ok {
				t.Fatalf("Find(%q, %q): %d, %v", l, k, at, is)
			}
		}
	}
}

func TestFindInRowsOfEachLength(t *testing.T) { // P6.1
	for n := range 70 {
		l := manyRow(n)
		for i := range 2 * n {
			at, is := row.Find(l, []byte(manyKey(i)))
			if at != (i+1)/2 || is != (i%2 == 0) {
				t.Fatalf("Find of %d in %d: %d, %v", i, n, at, is)
			}
		}
	}
}

func TestSame(t *testing.T) { // P6.1
	for _, x := range []struct {
		name string
		a, b []api.Pair
		want bool
	}{
		{"none and none", nil, nil, true},
		{"nil and none", nil, make([]api.Pair, 0, 3), true},
		{"none and one", nil, pairs("a", "1"), false},
		{"one", pairs("a", "1"), pairs("a", "1"), true},
		{"another key", pairs("a", "1"), pairs("b", "1"), false},
		{"another value", pairs("a", "1"), pairs("a", "2"), false},
		{"key and value the other way round", pairs("a", "b"), pairs("b", "a"), false},
		{"a byte here, not there", pairs("ab", "c"), pairs("a", "bc"), false},
		{"a longer value", pairs("a", "1"), pairs("a", "11"), false},
		{"a longer key", pairs("a", "1"), pairs("aa", "1"), false},
		{"no value, and an empty one", []api.Pair{{Key: []byte("a")}}, pairs("a", ""), true},
		{"an empty value, and a byte 0", pairs("a", ""), pairs("a", "\x00"), false},
		{"many", pairs("a", "1", "b", "2", "c", "3"), pairs("a", "1", "b", "2", "c", "3"), true},
		{"one more at the end", pairs("a", "1", "b", "2"), pairs("a", "1", "b", "2", "c", "3"), false},
		{"one more at the beginning", pairs("b", "2", "c", "3"), pairs("a", "1", "b", "2", "c", "3"), false},
		{"the first key", pairs("a", "1", "c", "2"), pairs("b", "1", "c", "2"), false},
		{"the last key", pairs("a", "1", "c", "2"), pairs("a", "1", "d", "2"), false},
		{"the last value", pairs("a", "1", "c", "2"), pairs("a", "1", "c", "3"), false},
		{"no row, the same", pairs("b", overV, "", "2", "b", "2"), pairs("b", overV, "", "2", "b", "2"), true},
		{"no row, in another order", pairs("b", "1", "a", "2"), pairs("a", "2", "b", "1"), false},
		{"no row, one twice", pairs("a", "1", "a", "1"), pairs("a", "1"), false},
		{"keys that may not be", pairs(overA, "1"), pairs(longA, "1"), false},
		{"zero pairs", make([]api.Pair, 2), pairs("", "", "", ""), true},
		{"zero pairs, fewer", make([]api.Pair, 2), make([]api.Pair, 1), false},
	} {
		if row.Same(x.a, x.b) != x.want || row.Same(x.b, x.a) != x.want {
			t.Errorf("%s: Same(%q, %q): not %v", x.name, x.a, x.b, x.want)
		}
	}
}

func TestPut(t *testing.T) { // P6.2
	for _, x := range []struct {
		name  string
		l     []api.Pair
		k, v  string
		want  []api.Pair
		isNew bool
	}{
		{"the example", pairs("a", "1", "c", "3"), "b", "2", pairs("a", "1", "b", "2", "c", "3"), true},
		{"to none", nil, "a", "1", pairs("a", "1"), true},
		{"an empty value", nil, "a", "", pairs("a", ""), true},
		{"ahead of one", pairs("b", "2"), "a", "1", pairs("a", "1", "b", "2"), true},
		{"behind one", pairs("b", "2"), "c", "3", pairs("b", "2", "c", "3"), true},
		{"anew, the only one", pairs("a", "1"), "a", "2", pairs("a", "2"), false},
		{"anew, the same value", pairs("a", "1"), "a", "1", pairs("a", "1"), false},
		{"anew, an empty value", pairs("a", "1"), "a", "", pairs("a", ""), false},
		{"anew, at the beginning", pairs("a", "1", "b", "2", "c", "3"), "a", "9", pairs("a", "9", "b", "2", "c", "3"), false},
		{"anew, in the middle", pairs("a", "1", "b", "2", "c", "3"), "b", "9", pairs("a", "1", "b", "9", "c", "3"), false},
		{"anew, at the end", pairs("a", "1", "b", "2", "c", "3"), "c", "9", pairs("a", "1", "b", "2", "c", "9"), false},
		{"ahead of all", pairs("b", "2", "c", "3"), "a", "1", pairs("a", "1", "b", "2", "c", "3"), true},
		{"behind all", pairs("a", "1", "b", "2"), "c", "3", pairs("a", "1", "b", "2", "c", "3"), true},
		{"one that another one begins with", pairs("ab", "2"), "a", "1", pairs("a", "1", "ab", "2"), true},
		{"one that begins with another one", pairs("a", "1", "b", "3"), "ab", "2", pairs("a", "1", "ab", "2", "b", "3"), true},
		{"a key of MaxKey", pairs("a", "1", "b", "3"), longA, "2", pairs("a", "1", longA, "2", "b", "3"), true},
		{"a value of MaxVal", pairs("a", "1"), "b", fullV, pairs("a", "1", "b", fullV), true},
		{"both", nil, longZ, fullV, pairs(longZ, fullV), true},
	} {
		got, isNew, err := row.Put(x.l, []byte(x.k), []byte(x.v))
		if err != nil || isNew != x.isNew || !are(got, texts(x.want)...) {
			t.Errorf("%s: Put(%q, %q, %q): %q, %v, %v", x.name, x.l, x.k, x.v, got, isNew, err)
		}
	}
	if got, isNew, err := row.Put(pairs("b", "2"), []byte("a"), nil); err != nil || !isNew || !are(got, "a", "", "b", "2") {
		t.Errorf("Put of a nil value: %q, %v, %v", got, isNew, err)
	}
}

func TestPutOfWhatMayNotBe(t *testing.T) { // P6.2, R3
	huge := strings.Repeat("h", 1<<16)
	rows := [][]api.Pair{nil, pairs("a", "1"), pairs("a", "1", "b", "2", longA, "3")}
	for _, l := range rows {
		for _, x := range []struct{ name, k, v string }{
			{"no key", "", "1"},
			{"no key, no value", "", ""},
			{"a key of one more", overA, "1"},
			{"a key of one more, no value", overA, ""},
			{"a huge key", huge, "1"},
			{"a value of one more", "a", overV},
			{"a value of one more, of a new key", "m", overV},
			{"a huge value", "a", huge},
			{"neither may be", "", overV},
			{"neither may be, both too long", overA, overV},
		} {
			got, isNew, err := row.Put(l, []byte(x.k), []byte(x.v))
			if c, is := err.(api.Code); !is || c != api.ErrArg || !errors.Is(err, api.ErrArg) {
				t.Errorf("%s: %#v, not ErrArg itself", x.name, err)
			}
			if len(got) != 0 || isNew {
				t.Errorf("%s: beside an error: %q, %v", x.name, got, isNew)
			}
		}
		if got, isNew, err := row.Put(l, nil, nil); err != api.ErrArg || len(got) != 0 || isNew {
			t.Errorf("nil: %q, %v, %v", got, isNew, err)
		}
	}
}

func TestPutOfEachLength(t *testing.T) { // P6.2
	for n := range 300 {
		b := bytes.Repeat([]byte{'k'}, n)
		if _, _, err := row.Put(nil, b, nil); (err == nil) != (n >= 1 && n <= 16) {
			t.Errorf("a key of %d bytes: %v", n, err)
		}
		if _, _, err := row.Put(nil, []byte("k"), b); (err == nil) != (n <= 32) {
			t.Errorf("a value of %d bytes: %v", n, err)
		}
	}
}

func TestDelete(t *testing.T) { // P6.2
	for _, x := range []struct {
		name string
		l    []api.Pair
		k    string
		want []api.Pair
		is   bool
	}{
		{"of none", nil, "a", nil, false},
		{"the only one", pairs("a", "1"), "a", nil, true},
		{"another one", pairs("a", "1"), "b", pairs("a", "1"), false},
		{"the first one", pairs("a", "1", "b", "2", "c", "3"), "a", pairs("b", "2", "c", "3"), true},
		{"the middle one", pairs("a", "1", "b", "2", "c", "3"), "b", pairs("a", "1", "c", "3"), true},
		{"the last one", pairs("a", "1", "b", "2", "c", "3"), "c", pairs("a", "1", "b", "2"), true},
		{"ahead of all", pairs("b", "1", "d", "2"), "a", pairs("b", "1", "d", "2"), false},
		{"between two", pairs("b", "1", "d", "2"), "c", pairs("b", "1", "d", "2"), false},
		{"behind all", pairs("b", "1", "d", "2"), "e", pairs("b", "1", "d", "2"), false},
		{"one that another one begins with", pairs("ab", "1", "b", "2"), "a", pairs("ab", "1", "b", "2"), false},
		{"the shorter one of two", pairs("a", "1", "ab", "2"), "a", pairs("ab", "2"), true},
		{"the longer one of two", pairs("a", "1", "ab", "2"), "ab", pairs("a", "1"), true},
		{"of MaxKey", pairs("a", "1", longA, "2"), longA, pairs("a", "1"), true},
		{"of one more", pairs("a", "1", longA, "2"), overA, pairs("a", "1", longA, "2"), false},
		{"of no byte", pairs("a", "1"), "", pairs("a", "1"), false},
		{"a value counts for nothing", pairs("a", "b"), "b", pairs("a", "b"), false},
	} {
		got, is := row.Delete(x.l, []byte(x.k))
		if is != x.is || !are(got, texts(x.want)...) {
			t.Errorf("%s: Delete(%q, %q): %q, %v", x.name, x.l, x.k, got, is)
		}
	}
	if got, is := row.Delete(pairs("a", "1"), nil); is || !are(got, "a", "1") {
		t.Errorf("Delete of nil: %q, %v", got, is)
	}
}

func TestSlice(t *testing.T) { // P6.2
	l := pairs("b", "1", "d", "2", "f", "3", "h", "4")
	for _, x := range []struct {
		name, from, to string
		limit          int
		want           string // the keys
	}{
		{"both ends", "d", "h", 9, "df"},
		{"From is no key of it", "c", "h", 9, "df"},
		{"To is no key of it", "d", "g", 9, "df"},
		{"just behind a key", "d\x00", "h", 9, "f"},
		{"just behind a key as To", "d", "f\x00", 9, "df"},
		{"From empty", "", "f", 9, "bd"},
		{"From empty, To ahead of all", "", "b", 9, ""},
		{"From empty, To behind all", "", "z", 9, "bdfh"},
		{"To empty", "f", "", 9, "fh"},
		{"To empty, From ahead of all", "a", "", 9, "bdfh"},
		{"To empty, From behind all", "i", "", 9, ""},
		{"To empty, From the last key", "h", "", 9, "h"},
		{"both empty", "", "", 9, "bdfh"},
		{"no key in it, between two", "d\x00", "f", 9, ""},
		{"no key in it, ahead of all", "a", "b", 9, ""},
		{"no key in it, behind all", "i", "z", 9, ""},
		{"one key in it", "d", "d\x00", 9, "d"},
		{"a limit of 0", "", "", 0, ""},
		{"a limit below 0", "", "", -1, ""},
		{"the least limit", "", "", math.MinInt, ""},
		{"a limit of 1", "", "", 1, "b"},
		{"a limit of 1, from the middle on", "c", "", 1, "d"},
		{"a limit of one less", "", "", 3, "bdf"},
		{"a limit of just as many", "", "", 4, "bdfh"},
		{"a limit of one more", "", "", 5, "bdfh"},
		{"the greatest limit", "", "", math.MaxInt, "bdfh"},
		{"a limit of one less, with both ends", "d", "i", 2, "df"},
		{"a limit of just as many, with both ends", "d", "i", 3, "dfh"},
		{"a limit of 0, with both ends", "d", "i", 0, ""},
		{"a limit below 0, with both ends", "d", "i", -3, ""},
		{"To is From", "d", "d", 9, ""},
		{"To is less", "h", "d", 9, ""},
		{"ends of more than MaxKey", overA, "gggggggggggggggggg", 9, "bdf"},
	} {
		var want []string
		for i, k := range []string{"b", "d", "f", "h"} {
			if strings.Contains(x.want, k) {
				want = append(want, k, strconv.Itoa(i+1))
			}
		}
		if got := row.Slice(l, rng(x.from, x.to), x.limit); !are(got, want...) {
			t.Errorf("%s: Slice(%q, %q, %d): %q", x.name, x.from, x.to, x.limit, got)
		}
	}
	if got := row.Slice(l, api.Range{}, 9); len(got) != 4 {
		t.Errorf("Slice of a zero range: %q", got)
	}
	if got := row.Slice(nil, api.Range{}, math.MaxInt); len(got) != 0 {
		t.Errorf("Slice of none: %q", got)
	}
	if got := row.Slice(pairs("a", "1"), rng("a", ""), 1); !are(got, "a", "1") {
		t.Errorf("Slice of one: %q", got)
	}
}

func TestSliceOfSomeRows(t *testing.T) { // P6.2
	draw := draws()
	for range 20 {
		l := someRow(draw, 1+draw(3))
		for _, from := range words() {
			for _, to := range words() {
				limit := draw(len(l)+3) - 1
				var want []api.Pair
				for _, p := range l {
					if lies(from, to, string(p.Key)) && len(want) < limit {
						want = append(want, p)
					}
				}
				if got := row.Slice(l, rng(from, to), limit); !are(got, texts(want)...) {
					t.Fatalf("Slice(%q, %q, %q, %d): %q", l, from, to, limit, got)
				}
			}
		}
	}
}

func TestMerge(t *testing.T) { // P6.2
	for _, x := range []struct {
		name       string
		a, b, want []api.Pair
	}{
		{"none and none", nil, nil, nil},
		{"none and one", nil, pairs("a", "1"), pairs("a", "1")},
		{"one and none", pairs("a", "1"), nil, pairs("a", "1")},
		{"none and many", nil, pairs("a", "1", "b", "2"), pairs("a", "1", "b", "2")},
		{"many and none", pairs("a", "1", "b", "2"), nil, pairs("a", "1", "b", "2")},
		{"of one key", pairs("a", "1"), pairs("a", "2"), pairs("a", "2")},
		{"of one key, an empty value", pairs("a", "1"), pairs("a", ""), pairs("a", "")},
		{"one behind the other", pairs("a", "1", "b", "2"), pairs("c", "3", "d", "4"), pairs("a", "1", "b", "2", "c", "3", "d", "4")},
		{"one ahead of the other", pairs("c", "3", "d", "4"), pairs("a", "1", "b", "2"), pairs("a", "1", "b", "2", "c", "3", "d", "4")},
		{"between each other", pairs("a", "1", "c", "3"), pairs("b", "2", "d", "4"), pairs("a", "1", "b", "2", "c", "3", "d", "4")},
		{"between each other, b first", pairs("b", "2", "d", "4"), pairs("a", "1", "c", "3"), pairs("a", "1", "b", "2", "c", "3", "d", "4")},
		{"one inside the other", pairs("a", "1", "d", "4"), pairs("b", "2", "c", "3"), pairs("a", "1", "b", "2", "c", "3", "d", "4")},
		{"all keys shared", pairs("a", "1", "b", "2"), pairs("a", "8", "b", "9"), pairs("a", "8", "b", "9")},
		{"the first key shared", pairs("a", "1", "b", "2"), pairs("a", "9", "c", "3"), pairs("a", "9", "b", "2", "c", "3")},
		{"the middle key shared", pairs("a", "1", "c", "3", "e", "5"), pairs("b", "2", "c", "9", "d", "4"), pairs("a", "1", "b", "2", "c", "9", "d", "4", "e", "5")},
		{"the last key shared", pairs("a", "1", "c", "3"), pairs("b", "2", "c", "9"), pairs("a", "1", "b", "2", "c", "9")},
		{"where one ends, the other begins", pairs("a", "1", "b", "2"), pairs("b", "9", "c", "3"), pairs("a", "1", "b", "9", "c", "3")},
		{"where one begins, the other ends", pairs("b", "2", "c", "3"), pairs("a", "1", "b", "9"), pairs("a", "1", "b", "9", "c", "3")},
		{"keys that others begin with", pairs("a", "1", "ab", "2"), pairs("a\x00", "3", "aa", "4"), pairs("a", "1", "a\x00", "3", "aa", "4", "ab", "2")},
		{"of MaxKey and MaxVal", pairs(longA, fullV), pairs(longA, "1", longZ, fullV), pairs(longA, "1", longZ, fullV)},
	} {
		if got := row.Merge(x.a, x.b); !are(got, texts(x.want)...) {
			t.Errorf("%s: Merge(%q, %q): %q", x.name, x.a, x.b, got)
		}
	}
}

func TestMergeOfSomeRows(t *testing.T) { // P6.2, P6.4
	draw := draws()
	for range 2000 {
		a, b := someRow(draw, 1+draw(5)), someRow(draw, 1+draw(5))
		vals := map[string]string{}
		for _, p := range slices.Concat(a, b) {
			vals[string(p.Key)] = string(p.Val)
		}
		got := row.Merge(a, b)
		if !isRow(got) || !row.Same(got, rowOf(vals)) {
			t.Fatalf("Merge(%q, %q): %q", a, b, got)
		}
		put := a
		for _, p := range b {
			put, _, _ = row.Put(put, p.Key, p.Val)
		}
		if !row.Same(got, put) {
			t.Fatalf("Merge(%q, %q) isn't what puts come to: %q, %q", a, b, got, put)
		}
	}
}

// rowOf is the row of a map.
func rowOf(vals map[string]string) []api.Pair {
	var l []api.Pair
	for k, v := range vals {
		l = append(l, api.Pair{Key: []byte(k), Val: []byte(v)})
	}
	slices.SortFunc(l, func(p, q api.Pair) int { return order(string(p.Key), string(q.Key)) })
	return l
}

// model is a row, and the same as a map.
type model struct {
	l    []api.Pair
	vals map[string]string
}

func (m *model) put(t *testing.T, k, v string) {
	_, was := m.vals[k]
	l, isNew, err := row.Put(m.l, []byte(k), []byte(v))
	if err != nil || isNew == was {
		t.Fatalf("Put(%q, %q, %q): %v, %v", m.l, k, v, isNew, err)
	}
	m.l, m.vals[k] = l, v
}

func (m *model) delete(t *testing.T, k string) {
	_, was := m.vals[k]
	l, is := row.Delete(m.l, []byte(k))
	if is != was {
		t.Fatalf("Delete(%q, %q): %v", m.l, k, is)
	}
	m.l = l
	delete(m.vals, k)
}

// held holds the row against the map: each key that was put is found, with
// the value it was put with last, and no other one is.
func (m *model) held(t *testing.T) {
	if !isRow(m.l) || !row.Is(m.l) || !row.Same(m.l, rowOf(m.vals)) {
		t.Fatalf("%q isn't the row of %q", m.l, m.vals)
	}
	for _, k := range words() {
		v, was := m.vals[k]
		at, is := row.Find(m.l, []byte(k))
		if is != was || is && string(m.l[at].Val) != v {
			t.Fatalf("Find(%q, %q): %d, %v", m.l, k, at, is)
		}
	}
}

func TestWhatWasPutIsFound(t *testing.T) { // P6.4
	draw := draws()
	m := model{vals: map[string]string{}}
	for range 3000 {
		k := words()[draw(len(words()))]
		switch {
		case draw(2) == 0:
			m.delete(t, k)
		case len(k) < 1 || len(k) > 16:
			if l, isNew, err := row.Put(m.l, []byte(k), nil); err != api.ErrArg || len(l) > 0 || isNew {
				t.Fatalf("Put of %q: %q, %v, %v", k, l, isNew, err)
			}
		default:
			m.put(t, k, values()[draw(len(values()))])
		}
		m.held(t)
	}
	if len(m.vals) == 0 {
		t.Error("nothing is there at the end")
	}
}

func TestPutInAnyOrder(t *testing.T) { // P6.4
	draw := draws()
	for range 100 {
		l, want := []api.Pair(nil), keys()
		left := keys()
		for len(left) > 0 {
			i := draw(len(left))
			l, _, _ = row.Put(l, []byte(left[i]), []byte("v"))
			left = slices.Delete(left, i, i+1)
		}
		for i, p := range l {
			if len(l) != len(want) || string(p.Key) != want[i] || string(p.Val) != "v" {
				t.Fatalf("%q", l)
			}
		}
	}
}

func TestWhatIsToldOfARowIsARow(t *testing.T) { // P6.4
	draw := draws()
	for range 300 {
		a, b := someRow(draw, 1+draw(4)), someRow(draw, 1+draw(4))
		from, to := words()[draw(len(words()))], words()[draw(len(words()))]
		put, _, _ := row.Put(a, []byte(from), []byte(values()[draw(len(values()))]))
		gone, _ := row.Delete(a, []byte(from))
		some := row.Slice(a, rng(from, to), draw(30)-2)
		both := row.Merge(a, b)
		for _, l := range [][]api.Pair{put, gone, some, both} {
			if !isRow(l) || !row.Is(l) {
				t.Fatalf("of %q, %q, with %q, %q: %q is no row", a, b, from, to, l)
			}
		}
	}
}

func TestLongRows(t *testing.T) { // P6.2, P6.4: a row has no limit of its own
	const n = 5000
	l := manyRow(n)
	put, isNew, err := row.Put(l, []byte(manyKey(4001)), []byte("v"))
	if err != nil || !isNew || len(put) != n+1 || string(put[2001].Val) != "v" || !row.Is(put) {
		t.Errorf("Put: %d pairs, %v, %v", len(put), isNew, err)
	}
	gone, is := row.Delete(put, []byte(manyKey(4001)))
	if !is || !row.Same(gone, l) {
		t.Errorf("Delete: %d pairs, %v", len(gone), is)
	}
	some := row.Slice(l, rng(manyKey(2), manyKey(2*n-2)), n)
	if !row.Same(some, l[1:n-1]) {
		t.Errorf("Slice: %d pairs", len(some))
	}
	if both := row.Merge(l, put); !row.Same(both, put) {
		t.Errorf("Merge: %d pairs", len(both))
	}
}

// roomy is a text's bytes with room behind them, where a careless append
// would write.
func roomy(s string) []byte {
	return append(bytes.Repeat([]byte{'#'}, 40)[:0], s...)
}

// untouched tells whether these bytes, and the room behind, are as roomy made
// them.
func untouched(b []byte, s string) bool {
	return string(b) == s && string(b[:cap(b)]) == string(roomy(s)[:40])
}

// roomyPairs is pairs with room behind all of it, where a pair lies too.
func roomyPairs(texts ...string) []api.Pair {
	l := make([]api.Pair, 0, len(texts)/2+3)
	for i := 0; i < len(texts); i += 2 {
		l = append(l, api.Pair{Key: roomy(texts[i]), Val: roomy(texts[i+1])})
	}
	rest := l[len(l):cap(l)]
	for i := range rest {
		rest[i] = api.Pair{Key: roomy("~"), Val: roomy("~")}
	}
	return l
}

// untouchedPairs tells whether pairs, and the room behind, are as roomyPairs
// made them.
func untouchedPairs(l []api.Pair, texts ...string) bool {
	if len(l) != len(texts)/2 {
		return false
	}
	for i, p := range l[:cap(l)] {
		k, v := "~", "~"
		if i < len(l) {
			k, v = texts[2*i], texts[2*i+1]
		}
		if !untouched(p.Key, k) || !untouched(p.Val, v) {
			return false
		}
	}
	return true
}

func scribble(lists ...[]byte) {
	for _, b := range lists {
		b = b[:cap(b)]
		for i := range b {
			b[i] = '!'
		}
	}
}

// spoil writes over all that pairs may reach: bytes, and the pairs.
func spoil(lists ...[]api.Pair) {
	for _, l := range lists {
		l = l[:cap(l)]
		for i := range l {
			scribble(l[i].Key, l[i].Val)
			l[i] = api.Pair{Key: []byte("!"), Val: []byte("!")}
		}
	}
}

func TestWhatIsHandedInStays(t *testing.T) { // P6.3
	first, second := []string{"b", "1", "d", "2", "f", "3"}, []string{"a", "4", "d", "5", "e", fullV}
	for _, w := range words() {
		for _, to := range words() {
			a, b := roomyPairs(first...), roomyPairs(second...)
			k, v, r := roomy(w), roomy(to), api.Range{From: roomy(w), To: roomy(to)}
			row.Is(a)
			row.Find(a, k)
			row.Put(a, k, v)
			row.Delete(a, k)
			row.Slice(a, r, 2)
			row.Merge(a, b)
			row.Same(a, b)
			if !untouchedPairs(a, first...) || !untouchedPairs(b, second...) {
				t.Fatalf("changed with %q, %q: %q, %q", w, to, a, b)
			}
			if !untouched(k, w) || !untouched(v, to) || !untouched(r.From, w) || !untouched(r.To, to) {
				t.Fatalf("changed: %q, %q, %q", k, v, r)
			}
		}
	}
	for _, w := range []string{"a", "b", "c", "d", "e", "f", "g"} { // keys put anew and deleted, all places
		a := roomyPairs(first...)
		row.Put(a, []byte(w), []byte("v"))
		row.Delete(a, []byte(w))
		if !untouchedPairs(a, first...) {
			t.Fatalf("changed with %q: %q", w, a)
		}
	}
}

// tells is a call of package row, of two rows, a key and a value, that tells
// pairs.
type tells struct {
	name string
	call func(a, b []api.Pair, k, v []byte) []api.Pair
	want []string
}

// all is the calls that tell pairs, each way they may go, of the rows b, d, f
// and a, d, e.
func all() []tells {
	put := func(w string) func(a, b []api.Pair, k, v []byte) []api.Pair {
		return func(a, _ []api.Pair, k, v []byte) []api.Pair {
			l, _, _ := row.Put(a, append(k[:0], w...), v)
			return l
		}
	}
	gone := func(w string) func(a, b []api.Pair, k, v []byte) []api.Pair {
		return func(a, _ []api.Pair, _, _ []byte) []api.Pair {
			l, _ := row.Delete(a, []byte(w))
			return l
		}
	}
	some := func(from, to string, limit int) func(a, b []api.Pair, k, v []byte) []api.Pair {
		return func(a, _ []api.Pair, _, _ []byte) []api.Pair { return row.Slice(a, rng(from, to), limit) }
	}
	both := func(a, b []api.Pair, _, _ []byte) []api.Pair { return row.Merge(a, b) }
	return []tells{
		{"Put ahead", put("a"), []string{"a", "v", "b", "1", "d", "2", "f", "3"}},
		{"Put between", put("c"), []string{"b", "1", "c", "v", "d", "2", "f", "3"}},
		{"Put behind", put("g"), []string{"b", "1", "d", "2", "f", "3", "g", "v"}},
		{"Put the first one anew", put("b"), []string{"b", "v", "d", "2", "f", "3"}},
		{"Put the middle one anew", put("d"), []string{"b", "1", "d", "v", "f", "3"}},
		{"Put the last one anew", put("f"), []string{"b", "1", "d", "2", "f", "v"}},
		{"Delete the first one", gone("b"), []string{"d", "2", "f", "3"}},
		{"Delete the middle one", gone("d"), []string{"b", "1", "f", "3"}},
		{"Delete the last one", gone("f"), []string{"b", "1", "d", "2"}},
		{"Delete none", gone("c"), []string{"b", "1", "d", "2", "f", "3"}},
		{"Slice all", some("", "", 9), []string{"b", "1", "d", "2", "f", "3"}},
		{"Slice the first ones", some("", "", 2), []string{"b", "1", "d", "2"}},
		{"Slice the middle one", some("c", "e", 9), []string{"d", "2"}},
		{"Merge", both, []string{"a", "4", "b", "1", "d", "5", "e", "6", "f", "3"}},
		{"Merge with none", func(a, _ []api.Pair, _, _ []byte) []api.Pair { return row.Merge(a, nil) }, []string{"b", "1", "d", "2", "f", "3"}},
		{"Merge of none", func(_, b []api.Pair, _, _ []byte) []api.Pair { return row.Merge(nil, b) }, []string{"a", "4", "d", "5", "e", "6"}},
	}
}

func TestWhatIsToldIsNew(t *testing.T) { // P6.3, R2
	first, second := []string{"b", "1", "d", "2", "f", "3"}, []string{"a", "4", "d", "5", "e", "6"}
	for _, x := range all() {
		a, b, k, v := roomyPairs(first...), roomyPairs(second...), roomy("."), roomy("v")
		got := x.call(a, b, k, v)
		spoil(a, b)
		scribble(k, v)
		if !are(got, x.want...) {
			t.Errorf("%s: what was told follows what was handed in: %q", x.name, got)
		}
		a, b, k, v = roomyPairs(first...), roomyPairs(second...), roomy("."), roomy("v")
		got = x.call(a, b, k, v)
		kept := string(k)
		spoil(got)
		if !untouchedPairs(a, first...) || !untouchedPairs(b, second...) || string(k) != kept || !untouched(v, "v") {
			t.Errorf("%s: what was handed in follows what was told: %q, %q, %q, %q", x.name, a, b, k, v)
		}
		if got = x.call(a, b, k, v); !are(got, x.want...) {
			t.Errorf("%s: what was told before is kept: %q", x.name, got)
		}
	}
}

func TestNoTwoOfOneAnswerShareMemory(t *testing.T) { // P6.3
	first, second := []string{"b", "1", "d", "2", "f", "3"}, []string{"a", "4", "d", "5", "e", "6"}
	for _, x := range all() {
		got := x.call(roomyPairs(first...), roomyPairs(second...), roomy("."), roomy("v"))
		var lists [][]byte
		for _, p := range got {
			lists = append(lists, p.Key, p.Val)
		}
		for i, b := range lists {
			scribble(b)
			for j := i + 1; j < len(lists); j++ {
				if string(lists[j]) != x.want[j] {
					t.Fatalf("%s: one follows another: %q", x.name, got)
				}
			}
		}
	}
}

func TestWhatIsToldOfOneMemoryIsNew(t *testing.T) { // P6.3: all that is handed in is of one memory
	b := []byte("ab")
	l := []api.Pair{{Key: b[:1], Val: b[:1]}, {Key: b[1:], Val: b[:1]}}
	got, isNew, err := row.Put(l, b, b)
	if err != nil || !isNew || !are(got, "a", "a", "ab", "ab", "b", "a") {
		t.Fatalf("%q, %v, %v", got, isNew, err)
	}
	scribble(got[0].Key, got[1].Key)
	if string(b) != "ab" || string(got[0].Val) != "a" || string(got[1].Val) != "ab" || string(got[2].Key) != "b" {
		t.Errorf("%q: %q", b, got)
	}
	both := row.Merge(l, l)
	scribble(both[0].Key)
	if string(b) != "ab" || string(both[0].Val) != "a" || !are(both[1:], "b", "a") {
		t.Errorf("%q: %q", b, both)
	}
}

func TestTwoAnswersShareNoMemory(t *testing.T) { // P6.3: nothing is kept
	l := pairs("a", "1", "b", "2")
	one, _ := row.Delete(l, []byte("z"))
	two, _ := row.Delete(one, []byte("z"))
	spoil(one)
	if !are(two, "a", "1", "b", "2") || !are(l, "a", "1", "b", "2") {
		t.Errorf("%q, %q", two, l)
	}
}

func TestAllArguments(t *testing.T) { // P1: of pairs that are no row too
	huge := strings.Repeat("h", 1<<16)
	ends := [][]byte{nil, {}, []byte("a"), []byte("c"), {0}, {0xff}, []byte(longA), []byte(overA), []byte(huge)}
	lists := [][]api.Pair{
		nil, {}, {{}}, {{}, {}, {}}, pairs("a", "1"), pairs("c", "1", "b", "2", "a", "3"),
		pairs("a", "1", "a", "2", "a", "3"), pairs(huge, huge, "", overV), pairs("b", "1", "d", "2", "c", "3"),
		pairs("", "", "a", "", "", ""), manyRow(100),
	}
	for _, a := range lists {
		row.Is(a)
		for _, k := range ends {
			if at, _ := row.Find(a, k); at < 0 || at > len(a) {
				t.Errorf("Find(%q, %q): %d", a, k, at)
			}
			row.Delete(a, k)
			for _, v := range ends {
				if l, isNew, err := row.Put(a, k, v); err != nil && (len(l) > 0 || isNew) {
					t.Errorf("Put: %v, beside %q, %v", err, l, isNew) // R3
				}
				for _, limit := range []int{math.MinInt, -1, 0, 1, 2, 1000, math.MaxInt} {
					if l := row.Slice(a, api.Range{From: k, To: v}, limit); len(l) > max(0, limit) {
						t.Errorf("Slice with a limit of %d: %d", limit, len(l))
					}
				}
			}
		}
		for _, b := range lists {
			row.Merge(a, b)
			if got, want := row.Same(a, b), slices.Equal(texts(a), texts(b)); got != want {
				t.Errorf("Same(%q, %q): %v", a, b, got)
			}
		}
	}
}
