package journal_test

import (
	"bytes"
	"math"
	"slices"
	"strings"
	"testing"

	"garnet/api"
	"garnet/journal"
	"garnet/omap"
)

// The kinds of requests, by the numbers that DOC.md gives them.
const (
	get    = 1
	put    = 2
	del    = 3
	absent = 4
	swap   = 5
	scan   = 6
)

func kinds() []int { return []int{get, put, del, absent, swap, scan} }

// draws is numbers that look like chance and are the same in each run.
func draws() func(k int) int {
	seed := uint64(1)
	return func(k int) int {
		seed = seed*6364136223846793005 + 1442695040888963407
		return int(seed>>33) % k
	}
}

func sameReq(a, b api.Req) bool {
	return a.Client == b.Client && a.Seq == b.Seq && a.Kind == b.Kind && a.Limit == b.Limit &&
		bytes.Equal(a.Key, b.Key) && bytes.Equal(a.Val, b.Val) && bytes.Equal(a.Old, b.Old) && bytes.Equal(a.To, b.To)
}

func sameRows(a, b []api.Pair) bool {
	return slices.EqualFunc(a, b, func(p, q api.Pair) bool {
		return bytes.Equal(p.Key, q.Key) && bytes.Equal(p.Val, q.Val)
	})
}

func sameRes(a, b api.Res) bool {
	return a.Code == b.Code && a.Found == b.Found && a.Stamp == b.Stamp && bytes.Equal(a.Val, b.Val) && sameRows(a.Rows, b.Rows)
}

// line is a request of a batch, and its marks.
type line struct {
	slot     int
	req      api.Req
	applied  bool
	res      api.Res
	answered bool
}

// model is P17.1 to P17.3 once more: the batch's lines, in its order, from
// whose marks all else is told.
type model []line

func (m model) open() bool { return m.left(func(x line) bool { return x.answered }) > 0 }

// left is how many lines haven't a mark.
func (m model) left(marked func(line) bool) int {
	n := 0
	for _, x := range m {
		if !marked(x) {
			n++
		}
	}
	return n
}

// refused is the error of a Begin, by the words of P17.1.
func (m model) refused(slots []int, l []api.Req) error {
	switch {
	case m.open():
		return api.ErrState
	case len(l) == 0 || len(slots) != len(l):
		return api.ErrArg
	}
	for i, n := range slots {
		if slices.Contains(slots[:i], n) || !omap.May(l[i]) {
			return api.ErrArg
		}
	}
	if len(l) > 32 {
		return api.ErrLarge
	}
	return nil
}

// ahead tells whether the one at place i stands ahead of the one at place j.
func ahead(l []api.Req, i, j int) bool {
	if c := strings.Compare(string(l[i].Key), string(l[j].Key)); c != 0 {
		return c < 0
	}
	if (l[i].Kind == scan) != (l[j].Kind == scan) {
		return l[j].Kind == scan
	}
	return i < j
}

// begun is the model with a batch: each line stands behind as many as are ahead.
func begun(slots []int, l []api.Req) model {
	m := make(model, len(l))
	for i := range l {
		n := 0
		for j := range l {
			if ahead(l, j, i) {
				n++
			}
		}
		m[n] = line{slot: slots[i], req: l[i]}
	}
	return m
}

// group is from where to where the first group lies that isn't applied.
func (m model) group() (int, int) {
	from := 0
	for from < len(m) && m[from].applied {
		from++
	}
	to := from
	for to < len(m) && (to == from || m.together(from, to)) {
		to++
	}
	return from, to
}

func (m model) together(i, j int) bool {
	return m[i].req.Kind != scan && m[j].req.Kind != scan && string(m[i].req.Key) == string(m[j].req.Key)
}

func (m model) next() []api.Req {
	var l []api.Req
	from, to := m.group()
	for _, x := range m[from:to] {
		l = append(l, x.req)
	}
	return l
}

func (m model) apply(res []api.Res) error {
	from, to := m.group()
	if from == to {
		return api.ErrState
	}
	if len(res) != to-from {
		return api.ErrArg
	}
	for i, a := range res {
		m[from+i].applied, m[from+i].res = true, a
	}
	return nil
}

// ready is the place of the first line that is applied and not answered.
func (m model) ready() int {
	return slices.IndexFunc(m, func(x line) bool { return x.applied && !x.answered })
}

func (m model) answered() error {
	i := m.ready()
	if i < 0 {
		return api.ErrState
	}
	m[i].answered = true
	return nil
}

// both is a journal, and the model of it: each call is done on both, and held
// against it.
type both struct {
	t *testing.T
	j *journal.Journal
	m model
}

func pairUp(t *testing.T) *both {
	t.Helper()
	b := &both{t: t, j: newJournal(t)}
	b.agree()
	return b
}

func newJournal(t *testing.T) *journal.Journal {
	t.Helper()
	j := journal.New()
	if j == nil {
		t.Fatal("New: none")
	}
	return j
}

// agree holds all that may be seen, twice, for a look turns nothing: Open,
// Left, Next and Ready.
func (b *both) agree() {
	b.t.Helper()
	for range 2 {
		if got := b.j.Open(); got != b.m.open() {
			b.t.Fatalf("Open: %v", got)
		}
		apply, answer := b.j.Left()
		wantApply := b.m.left(func(x line) bool { return x.applied })
		wantAnswer := b.m.left(func(x line) bool { return x.answered })
		if apply != wantApply || answer != wantAnswer {
			b.t.Fatalf("Left: %d, %d, not %d, %d", apply, answer, wantApply, wantAnswer)
		}
		if got, want := b.j.Next(), b.m.next(); !slices.EqualFunc(got, want, sameReq) {
			b.t.Fatalf("Next: %+v, not %+v", got, want)
		}
		b.ready()
	}
}

func (b *both) ready() {
	b.t.Helper()
	want := line{}
	at := b.m.ready()
	if at >= 0 {
		want = b.m[at]
	}
	slot, res, is := b.j.Ready()
	if slot != want.slot || !sameRes(res, want.res) || is != (at >= 0) {
		b.t.Fatalf("Ready: %d, %+v, %v, not %d, %+v, %v", slot, res, is, want.slot, want.res, at >= 0)
	}
}

// held holds an error by ==, for it is to be the Code itself.
func (b *both) held(name string, err, fault error) error {
	b.t.Helper()
	if err != fault {
		b.t.Fatalf("%s: %v, not %v", name, err, fault)
	}
	b.agree()
	return fault
}

func (b *both) begin(slots []int, l []api.Req) error {
	b.t.Helper()
	fault := b.m.refused(slots, l)
	if fault == nil {
		b.m = begun(slots, l)
	}
	return b.held("Begin", b.j.Begin(slots, l), fault)
}

func (b *both) apply(res []api.Res) error {
	b.t.Helper()
	fault := b.m.apply(res)
	return b.held("Apply", b.j.Apply(res), fault)
}

func (b *both) answered() error {
	b.t.Helper()
	fault := b.m.answered()
	return b.held("Answered", b.j.Answered(), fault)
}

// must ends the test where a step of it that has to go well doesn't.
func (b *both) must(err error) {
	b.t.Helper()
	if err != nil {
		b.t.Fatal(err)
	}
}

// toText is one of a few keys or values, short ones and one as long as may be.
func toText(draw func(int) int) []byte {
	return []byte([]string{"", "a", "b", "ab", "\x00", "\xff", longA}[draw(7)])
}

// someReq is a request that may be, of some keys, with fields of other kinds, too.
func someReq(draw func(int) int, keys int) api.Req {
	r := api.Req{Client: draw(3), Seq: draw(50), Kind: 1 + draw(6), Val: toText(draw), Old: toText(draw)}
	r.Key = []byte{byte('a' + draw(keys))}
	r.Limit, r.To = draw(200)-50, toText(draw)
	if r.Kind != scan {
		return r
	}
	r.Limit, r.To = 1+draw(100), nil
	if draw(2) == 0 {
		r.To = append(bytes.Clone(r.Key), 'z')
	}
	if draw(4) == 0 {
		r.Key = nil
	}
	return r
}

// badReq is one that may not be.
func badReq(draw func(int) int) api.Req {
	l := badReqs()
	return l[draw(len(l))]
}

// someRes is any answer.
func someRes(draw func(int) int) api.Res {
	a := api.Res{Code: draw(13) - 1, Found: draw(2) == 0, Stamp: uint64(draw(1 << 30))}
	a.Val = bytes.Repeat([]byte{byte(draw(256))}, draw(4))
	for range draw(4) {
		a.Rows = append(a.Rows, api.Pair{Key: []byte{byte(draw(256))}, Val: bytes.Repeat([]byte{'v'}, draw(3))})
	}
	return a
}

// someSlots is so many unlike numbers, in no order.
func someSlots(draw func(int) int, n int) []int {
	l := make([]int, n)
	for i := range l {
		l[i] = i - draw(2)*draw(2)*(1+i)*100 // some are far below 0
	}
	for i := range l {
		k := i + draw(n-i)
		l[i], l[k] = l[k], l[i]
	}
	return l
}

// someBatch is slots and requests; now and then ones that may not be, in one
// way or in some.
func someBatch(draw func(int) int, most, keys int) ([]int, []api.Req) {
	n := 1 + draw(most)
	slots := someSlots(draw, n)
	var l []api.Req
	for range n {
		l = append(l, someReq(draw, keys))
	}
	for range draw(8) / 6 * (1 + draw(2)) {
		switch draw(4) {
		case 0:
			slots[draw(len(slots))] = slots[draw(len(slots))] // the same one, or twice
		case 1:
			l[draw(len(l))] = badReq(draw)
		case 2:
			slots = append(slots, 1000)
		case 3:
			l = append(l, someReq(draw, keys))
		}
	}
	if draw(20) == 0 {
		return nil, nil
	}
	return slots, l
}

func someAnswers(draw func(int) int, n int) []api.Res {
	var l []api.Res
	for range n {
		l = append(l, someRes(draw))
	}
	return l
}

// someCall is any call of a journal, now and then with too few answers or too
// many; it tells the call's name and error.
func (b *both) someCall(draw func(int) int, most, keys int) (string, error) {
	b.t.Helper()
	n := len(b.m.next())
	switch draw(8) {
	case 0:
		slots, l := someBatch(draw, most, keys)
		return "Begin", b.begin(slots, l)
	case 1, 2, 3:
		if draw(5) == 0 {
			n = max(0, n+draw(3)-1)
		}
		return "Apply", b.apply(someAnswers(draw, n))
	}
	return "Answered", b.answered()
}

func TestManySequences(t *testing.T) { // P17.1, P17.2, P17.3, and P1
	draw := draws()
	seen := map[string]int{}
	for _, most := range []int{1, 2, 3, 5, 8, 31, 32, 33, 40} {
		for _, keys := range []int{1, 2, 3, 10, 26} {
			b := pairUp(t)
			for range 3000 {
				name, err := b.someCall(draw, most, keys)
				if err != nil {
					name += " " + err.Error()
				}
				seen[name]++
			}
		}
	}
	for _, x := range []struct {
		name  string
		codes []api.Code
	}{
		{"Begin", []api.Code{api.ErrArg, api.ErrLarge, api.ErrState}},
		{"Apply", []api.Code{api.ErrArg, api.ErrState}},
		{"Answered", []api.Code{api.ErrState}},
	} {
		if seen[x.name] < 1000 {
			t.Errorf("%s went well %d times", x.name, seen[x.name])
		}
		for _, c := range x.codes {
			if n := seen[x.name+" "+c.Error()]; n < 50 {
				t.Errorf("%s: %v was seen %d times", x.name, c, n)
			}
		}
	}
}

// answersOf is so many answers, of no two calls alike.
func answersOf(call, n int) []api.Res {
	var l []api.Res
	for i := range n {
		l = append(l, api.Res{Code: i, Stamp: uint64(100 + call)})
	}
	return l
}

// replay does these calls on a new journal and its model.
func replay(t *testing.T, calls []byte, slots []int, l []api.Req) *both {
	t.Helper()
	b := pairUp(t)
	for n, c := range calls {
		switch c {
		case 'b':
			b.begin(slots, l)
		case 'n': // of what is asked, so many
			b.apply(answersOf(n, len(b.m.next())))
		case '1':
			b.apply(answersOf(n, 1))
		case 'd':
			b.answered()
		}
	}
	return b
}

// eachSequence goes through all sequences of calls of a length.
func eachSequence(names string, length int, f func(calls []byte)) {
	calls := make([]byte, length)
	var from func(at int)
	from = func(at int) {
		if at == length {
			f(calls)
			return
		}
		for i := range len(names) {
			calls[at] = names[i]
			from(at + 1)
		}
	}
	from(0)
}

// smallBatches is batches of which a few calls bring one to its end.
func smallBatches() [][]api.Req {
	a, b := keyed(get, "a"), keyed(put, "b")
	s := keyed(scan, "a")
	return [][]api.Req{{a}, {s}, {b, a}, {a, a}, {s, a}, {s, s}, {b, s, a}, {a, b, a}}
}

func TestAllShortSequences(t *testing.T) { // P17.1, P17.2, P17.3
	for _, l := range smallBatches() {
		slots := []int{7, -4, 5}[:len(l)]
		eachSequence("bn1d", 6, func(calls []byte) { replay(t, calls, slots, l) })
	}
}

func TestAllWaysThroughABatch(t *testing.T) { // P17.2, P17.3: Apply and Answered by turns, in each way there is
	l := []api.Req{keyed(scan, "b"), keyed(put, "c"), keyed(get, "b"), keyed(del, "b"), keyed(scan, "")}
	ends := 0
	eachSequence("nd", 9, func(calls []byte) {
		b := replay(t, append([]byte{'b'}, calls...), []int{9, 3, 0, math.MinInt, 4}, l)
		if !b.j.Open() {
			ends++
		}
	})
	if ends == 0 {
		t.Error("none comes to its end")
	}
}

func TestJournalsAreApart(t *testing.T) { // P17.1: each goes by its own calls alone
	draw := draws()
	var l []*both
	for range 4 {
		l = append(l, pairUp(t))
	}
	for range 8000 {
		l[draw(4)].someCall(draw, 6, 3)
		for _, b := range l {
			b.agree()
		}
	}
}

// tally is what became of a batch's requests, by what is told alone: each has
// a client and a slot of its own.
type tally struct {
	t        *testing.T
	j        *journal.Journal
	slot     map[int]int    // of a client
	marks    map[int]uint64 // a slot's answer, once its request is applied
	answered map[int]int    // how often a slot was
	mark     uint64
}

// begin begins a batch of so many.
func (y *tally) begin(draw func(int) int, n int) {
	y.t.Helper()
	y.slot, y.marks, y.answered = map[int]int{}, map[int]uint64{}, map[int]int{}
	slots := someSlots(draw, n)
	var l []api.Req
	for i := range n {
		r := someReq(draw, 1+draw(6))
		r.Client = i
		y.slot[i] = slots[i]
		l = append(l, r)
	}
	if err := y.j.Begin(slots, l); err != nil {
		y.t.Fatalf("Begin: %v", err)
	}
}

// apply hands in an answer for each of the next ones, now and then with others
// that are refused ahead of it.
func (y *tally) apply(draw func(int) int) {
	y.t.Helper()
	l := y.j.Next()
	if draw(3) == 0 {
		y.j.Apply(make([]api.Res, len(l)+1))
		y.j.Begin([]int{1}, []api.Req{keyed(get, "z")})
	}
	var res []api.Res
	for _, r := range l {
		y.mark++
		slot := y.slot[r.Client]
		if _, is := y.marks[slot]; is {
			y.t.Fatalf("client %d's is applied twice", r.Client)
		}
		y.marks[slot] = y.mark
		res = append(res, api.Res{Stamp: y.mark})
	}
	if err := y.j.Apply(res); (err == nil) != (len(l) > 0) {
		y.t.Fatalf("Apply of %d: %v", len(l), err)
	}
}

// answer answers the one that is to be, if there is one.
func (y *tally) answer() {
	y.t.Helper()
	slot, res, is := y.j.Ready()
	if err := y.j.Answered(); (err == nil) != is {
		y.t.Fatalf("Answered: %v, and Ready was %v", err, is)
	}
	if !is {
		return
	}
	y.answered[slot]++
	mark, was := y.marks[slot]
	if !was || mark != res.Stamp || y.answered[slot] > 1 {
		y.t.Fatalf("slot %d is told %d, not %d; answered %d times", slot, res.Stamp, mark, y.answered[slot])
	}
}

func TestEachIsAppliedOnceAndAnsweredOnce(t *testing.T) { // P17.5: by what is told alone
	draw := draws()
	for n := 1; n <= 32; n++ {
		y := &tally{t: t, j: newJournal(t)}
		for range 40 {
			y.begin(draw, n)
			eager := 1 + draw(4) // how often one is applied rather than answered
			for y.j.Open() {
				if draw(5) < eager {
					y.apply(draw)
				} else {
					y.answer()
				}
			}
			if len(y.marks) != n || len(y.answered) != n {
				t.Fatalf("of %d %d are applied and %d answered", n, len(y.marks), len(y.answered))
			}
		}
	}
}
