package weigh_test

import (
	"math"
	"slices"
	"testing"

	"garnet/weigh"
)

const tiny = math.SmallestNonzeroFloat64

// What can't be told as a constant.
var (
	inf  = math.Inf(1)
	less = math.Inf(-1)
	nan  = math.NaN()
	neg0 = math.Copysign(0, -1)
)

// nans is what is no number: quiet ones and signalling ones, of both signs,
// with few bits set and with all of them.
func nans() []float64 {
	l := []float64{nan, -nan, inf - inf, math.Sqrt(-1)}
	for _, bits := range []uint64{
		0x7ff0000000000001, 0x7ff7ffffffffffff, 0x7ff8000000000000, 0x7fffffffffffffff,
		0xfff0000000000001, 0xfff7ffffffffffff, 0xfff8000000000000, 0xffffffffffffffff,
	} {
		l = append(l, math.Float64frombits(bits))
	}
	return l
}

// ladder is the chapter's order: each rung stands ahead of the next one, and
// what is of one rung is alike.
func ladder() [][]float64 {
	rungs := [][]float64{nans()}
	for _, w := range []float64{
		less, -math.MaxFloat64, -1e300, -2, math.Nextafter(-1, -2), -1, -0.5, -0x1p-1022, -2 * tiny, -tiny,
		neg0, 0,
		tiny, 2 * tiny, 0x1p-1022, 0.5, 1, math.Nextafter(1, 2), 2, 1e300, math.MaxFloat64, inf,
	} {
		rungs = append(rungs, []float64{w})
	}
	return rungs
}

// steps is the ladder as a list, with each one's rung.
func steps() (l []float64, rung []int) {
	for r, alike := range ladder() {
		for _, w := range alike {
			l, rung = append(l, w), append(rung, r)
		}
	}
	return l, rung
}

// bitsOf tells weights apart that == doesn't, and NaN from itself never.
func bitsOf(l []float64) []uint64 {
	bits := make([]uint64, len(l))
	for i, w := range l {
		bits[i] = math.Float64bits(w)
	}
	return bits
}

// same holds a result to the bit, but for what is no number, that is alike.
func same(got, want float64) bool {
	if math.IsNaN(want) {
		return math.IsNaN(got)
	}
	return math.Float64bits(got) == math.Float64bits(want)
}

func sign(n int) int {
	switch {
	case n < 0:
		return -1
	case n > 0:
		return 1
	}
	return 0
}

// draws is numbers that look like chance and are the same in each run.
func draws() func(k int) int {
	seed := uint64(1)
	return func(k int) int {
		seed = seed*6364136223846793005 + 1442695040888963407
		return int(seed>>33) % k
	}
}

func TestCompareExample(t *testing.T) { // P3.1, the chapter's table
	if c := weigh.Compare(neg0, 0); c != -1 {
		t.Errorf("Compare(-0, 0): %d", c)
	}
	if c := weigh.Compare(0, neg0); c != 1 {
		t.Errorf("Compare(0, -0): %d", c)
	}
}

func TestCompareAllOfTheLadder(t *testing.T) { // P3.1
	l, rung := steps()
	for i, a := range l {
		for j, b := range l {
			if got, want := weigh.Compare(a, b), sign(rung[i]-rung[j]); got != want {
				t.Errorf("Compare(%v (%x), %v (%x)): %d, not %d",
					a, math.Float64bits(a), b, math.Float64bits(b), got, want)
			}
		}
	}
}

func TestCompareIsAnOrder(t *testing.T) { // P3.4
	l, _ := steps()
	draw := draws()
	for range 20 { // of any bits
		l = append(l, math.Float64frombits(uint64(draw(1<<31))<<33|uint64(draw(1<<31))))
	}
	for _, a := range l {
		if c := weigh.Compare(a, a); c != 0 {
			t.Errorf("Compare(%v, itself): %d", a, c)
		}
		for _, b := range l {
			ab := weigh.Compare(a, b)
			if ba := weigh.Compare(b, a); ab != -ba {
				t.Errorf("Compare(%v, %v): %d, and the other way round %d", a, b, ab, ba)
			}
			if bothNaN := math.IsNaN(a) && math.IsNaN(b); !bothNaN && (ab == 0) != same(a, b) {
				t.Errorf("Compare(%v, %v): %d", a, b, ab)
			}
			for _, c := range l {
				if ab <= 0 && weigh.Compare(b, c) <= 0 && weigh.Compare(a, c) > 0 {
					t.Errorf("%v, %v, %v don't follow each other", a, b, c)
				}
			}
		}
	}
}

func TestHeaviestAndRank(t *testing.T) { // P3.1, P3.4
	for _, x := range []struct {
		name string
		l    []float64
		rank []int
	}{
		{"one", []float64{3}, []int{0}},
		{"one that is no number", []float64{nan}, []int{0}},
		{"one -infinity", []float64{less}, []int{0}},
		{"rising", []float64{1, 2, 3}, []int{2, 1, 0}},
		{"falling", []float64{3, 2, 1}, []int{0, 1, 2}},
		{"mixed", []float64{2, -5, 7, 0.5}, []int{2, 0, 3, 1}},
		{"all below 0", []float64{-3, -1, -2}, []int{1, 2, 0}},
		{"alike", []float64{4, 4, 4, 4}, []int{0, 1, 2, 3}},
		{"alike ones apart", []float64{1, 5, 1, 5, 1}, []int{1, 3, 0, 2, 4}},
		{"zeros", []float64{neg0, 0, neg0, 0}, []int{1, 3, 0, 2}},
		{"-0 and below it", []float64{-tiny, neg0}, []int{1, 0}},
		{"0 and above it", []float64{0, tiny}, []int{1, 0}},
		{"no numbers", nans(), []int{0, 1, 2, 3, 4, 5, 6, 7, 8, 9, 10, 11}},
		{"no number first", []float64{nan, less}, []int{1, 0}},
		{"no number last", []float64{less, nan}, []int{0, 1}},
		{"no number between", []float64{1, -nan, 2, nan, 1}, []int{2, 0, 4, 1, 3}},
		{"infinities", []float64{less, inf, 0, inf, less, nan}, []int{1, 3, 2, 0, 4, 5}},
		{"the greatest and infinity", []float64{math.MaxFloat64, inf, -math.MaxFloat64, less}, []int{1, 0, 2, 3}},
	} {
		if got := weigh.Rank(x.l); !slices.Equal(got, x.rank) {
			t.Errorf("%s: Rank: %v, not %v", x.name, got, x.rank)
		}
		if got := weigh.Heaviest(x.l); got != x.rank[0] {
			t.Errorf("%s: Heaviest: %d, not %d", x.name, got, x.rank[0])
		}
	}
}

func TestOfNone(t *testing.T) { // P3.1, P3.2, P1
	for _, l := range [][]float64{nil, {}, make([]float64, 0, 4)} {
		if got := weigh.Heaviest(l); got != -1 {
			t.Errorf("Heaviest of none: %d", got)
		}
		if got := weigh.Rank(l); len(got) != 0 {
			t.Errorf("Rank of none: %v", got)
		}
		if got := weigh.Mean(l); !math.IsNaN(got) {
			t.Errorf("Mean of none: %v", got)
		}
	}
	for _, hits := range [][]int{nil, {}, make([]int, 0, 4)} {
		if got := weigh.Share(hits); len(got) != 0 {
			t.Errorf("Share of none: %v", got)
		}
	}
}

// rankModel takes the heaviest one of what is left, from the ladder's rungs.
func rankModel(rung []int) []int {
	left := slices.Clone(rung)
	var rank []int
	for range rung {
		best := 0
		for i, r := range left {
			if r > left[best] {
				best = i
			}
		}
		rank = append(rank, best)
		left[best] = -1
	}
	return rank
}

func TestRankAgainstModel(t *testing.T) { // P3.1, P3.4
	all, rungs := steps()
	draw := draws()
	for range 500 {
		n := 1 + draw(80) // short ones and long ones are sorted in other ways
		few := 1 + draw(len(all))
		l, rung := make([]float64, n), make([]int, n)
		for i := range n {
			k := draw(few)
			l[i], rung[i] = all[k], rungs[k]
		}
		want := rankModel(rung)
		if got := weigh.Rank(l); !slices.Equal(got, want) {
			t.Fatalf("Rank(%v): %v, not %v", l, got, want)
		}
		if got := weigh.Heaviest(l); got != want[0] {
			t.Fatalf("Heaviest(%v): %d, not %d", l, got, want[0])
		}
	}
}

func TestLongList(t *testing.T) { // P3.1, P1
	const n = 1 << 17
	l := make([]float64, n)
	for i := range l {
		l[i] = float64(i % 3)
	}
	rank := weigh.Rank(l)
	if len(rank) != n || rank[0] != weigh.Heaviest(l) || rank[0] != 2 {
		t.Fatalf("%d places, from %d on", len(rank), rank[0])
	}
	for k := 1; k < n; k++ {
		i, j := rank[k-1], rank[k]
		if l[i] < l[j] || l[i] == l[j] && i >= j {
			t.Fatalf("place %d ahead of place %d", i, j)
		}
	}
}

func TestMean(t *testing.T) { // P3.2
	const most = math.MaxFloat64
	for _, x := range []struct {
		name string
		l    []float64
		want float64
	}{
		{"one", []float64{3}, 3},
		{"some", []float64{1, 2, 6}, 3},
		{"below 0", []float64{-1, -2}, -1.5},
		{"that comes to 0", []float64{2, -2}, 0},
		{"0", []float64{0}, 0},
		{"-0, added to 0", []float64{neg0}, 0},
		{"-0 twice", []float64{neg0, neg0}, 0},
		{"0 counts", []float64{0, 4, neg0, 4}, 2},
		{"no number is passed over", []float64{nan, 1, -nan, 3}, 2},
		{"infinity is passed over", []float64{inf, 1, 3, inf}, 2},
		{"-infinity is passed over", []float64{1, less, 3}, 2},
		{"both infinities are passed over", []float64{inf, 5, less}, 5},
		{"only no numbers", nans(), nan},
		{"only infinity", []float64{inf}, nan},
		{"only -infinity", []float64{less, less}, nan},
		{"nothing that counts", []float64{inf, nan, less}, nan},
		{"divided, not shortened", []float64{0, 0, 1}, 1.0 / 3},
		{"rounded at the second one", []float64{0x1p53, 1, 1}, 0x1p53 / 3},
		{"the small ones first", []float64{1, 1, 0x1p53}, (0x1p53 + 2) / 3},
		{"taken away again", []float64{1, 0x1p60, -0x1p60}, 0},
		{"taken away ahead", []float64{0x1p60, -0x1p60, 3}, 1},
		{"the greatest one", []float64{most}, most},
		{"infinity on the way", []float64{most, most}, inf},
		{"infinity on the way, and no way back", []float64{most, most, -most, -most}, inf},
		{"-infinity on the way, and no way back", []float64{-most, -most, most, most}, less},
		{"no infinity in that order", []float64{most, -most, most, -most}, 0},
		{"just below infinity", []float64{most, 0x1p969}, most / 2},
		{"just infinity", []float64{most, 0x1p970}, inf},
		{"the smallest one", []float64{tiny}, tiny},
		{"half the smallest one, to even", []float64{tiny, 0}, 0},
	} {
		if got := weigh.Mean(x.l); !same(got, x.want) {
			t.Errorf("%s: Mean(%v): %v, not %v", x.name, x.l, got, x.want)
		}
	}
}

func TestMeanRoundsEachSum(t *testing.T) { // P3.2
	sum := 0.9999999999999999 // ten times 0.1, rounded at each: not 1
	l := slices.Repeat([]float64{0.1}, 10)
	if got := weigh.Mean(l); !same(got, sum/10) || same(got, 0.1) {
		t.Errorf("Mean of ten times 0.1: %v", got)
	}
}

func TestShare(t *testing.T) { // P3.2
	const most = math.MaxInt
	for _, x := range []struct {
		name string
		hits []int
		want []float64
	}{
		{"one", []int{7}, []float64{1}},
		{"one, divided in one go", []int{49}, []float64{1}}, // 49 * (1 / 49) isn't
		{"two", []int{1, 3}, []float64{0.25, 0.75}},
		{"thirds", []int{1, 1, 1}, []float64{1.0 / 3, 1.0 / 3, 1.0 / 3}},
		{"0", []int{0}, []float64{0}},
		{"only 0", []int{0, 0, 0}, []float64{0, 0, 0}},
		{"0 among others", []int{0, 2, 0, 2}, []float64{0, 0.5, 0, 0.5}},
		{"below 0", []int{-1}, []float64{nan}},
		{"none above 0", []int{0, -3, 0, math.MinInt}, []float64{0, nan, 0, nan}},
		{"below 0 counts for nothing", []int{-100, 1, 3, -1}, []float64{nan, 0.25, 0.75, nan}},
		{"the least one", []int{math.MinInt, 5}, []float64{nan, 1}},
		{"the greatest one", []int{most}, []float64{1}},
		{"above what an int holds", []int{most, most}, []float64{0.5, 0.5}},
		{"four times that", []int{most, most, 0, most, most}, []float64{0.25, 0.25, 0, 0.25, 0.25}},
		{"just above it", []int{most, 1}, []float64{1, 0x1p-63}},
		{"no less for what is below 0", []int{most, math.MinInt, most}, []float64{0.5, nan, 0.5}},
	} {
		got := weigh.Share(x.hits)
		if !slices.EqualFunc(got, x.want, same) {
			t.Errorf("%s: Share(%v): %v, not %v", x.name, x.hits, got, x.want)
		}
	}
}

func TestShareSumsFromTheFirstOn(t *testing.T) { // P3.2
	const big = 1 << 53
	// 2^53 + 1 rounds back to 2^53, and so again; the other way round it's 2^53 + 2.
	if got := weigh.Share([]int{big, 1, 1}); !same(got[0], 1) || !same(got[1], 0x1p-53) {
		t.Errorf("Share, the great one first: %v", got)
	}
	want := float64(big) / float64(big+2)
	if got := weigh.Share([]int{1, 1, big}); !same(got[2], want) || same(got[2], 1) {
		t.Errorf("Share, the great one last: %v", got)
	}
}

func TestWhatIsHandedInStays(t *testing.T) { // P3.3
	l, _ := steps()
	slices.Reverse(l[3:17]) // in no order
	before := bitsOf(l)
	weigh.Heaviest(l)
	weigh.Rank(l)
	weigh.Mean(l)
	if !slices.Equal(bitsOf(l), before) {
		t.Errorf("the weights were changed: %v", l)
	}
	hits := []int{3, -1, 0, math.MaxInt, math.MinInt, 2}
	were := slices.Clone(hits)
	weigh.Share(hits)
	if !slices.Equal(hits, were) {
		t.Errorf("the hits were changed: %v", hits)
	}
}

func TestWhatIsToldIsNew(t *testing.T) { // P3.3
	l := []float64{2, 9, 4}
	rank := weigh.Rank(l)
	again := weigh.Rank(l)
	clear(rank[:cap(rank)])
	if want := []int{1, 2, 0}; !slices.Equal(again, want) || !slices.Equal(weigh.Rank(l), want) {
		t.Errorf("a rank that was told before is another's: %v", again)
	}
	hits := []int{1, 3}
	shares := weigh.Share(hits)
	more := weigh.Share(hits)
	clear(shares[:cap(shares)])
	if want := []float64{0.25, 0.75}; !slices.Equal(more, want) || !slices.Equal(weigh.Share(hits), want) {
		t.Errorf("a share that was told before is another's: %v", more)
	}
	hits[0] = 9 // what was told doesn't follow what was handed in
	l[0] = 99
	if !slices.Equal(more, []float64{0.25, 0.75}) || !slices.Equal(again, []int{1, 2, 0}) {
		t.Errorf("told: %v, %v", more, again)
	}
}

func TestNothingIsKept(t *testing.T) { // the chapter's opening
	first := weigh.Mean([]float64{1, 2})
	weigh.Mean([]float64{nan, inf, 1e300})
	weigh.Share([]int{-1, 1 << 40})
	weigh.Rank([]float64{5, 6, 7, 8})
	if again := weigh.Mean([]float64{1, 2}); first != 1.5 || again != 1.5 {
		t.Errorf("Mean: %v, then %v", first, again)
	}
	if got := weigh.Share([]int{1, 1}); !slices.Equal(got, []float64{0.5, 0.5}) {
		t.Errorf("Share: %v", got)
	}
	if got := weigh.Rank([]float64{1}); !slices.Equal(got, []int{0}) {
		t.Errorf("Rank: %v", got)
	}
}
