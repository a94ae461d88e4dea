package hist

import (
	"math"
	"math/big"
	"math/rand"
	"slices"
	"testing"

	"noonmark/api"
	"noonmark/gap"
	"noonmark/wide"
)

const (
	lowest  = math.MinInt64
	highest = math.MaxInt64
)

var _ [65]int64 = Hist{} // as the chapter gives it

// edges returns the values around every place where a bucket begins or ends.
func edges() []int64 {
	list := []int64{lowest, lowest + 1, -3, -2, -1, 0, 1, 2, 3, highest - 1, highest}
	for k := range 63 {
		for d := int64(-2); d <= 1; d++ {
			list = append(list, 1<<k+d, -1<<k+d)
		}
	}
	return list
}

// varied returns values of every length and sign.
func varied(source *rand.Rand, n int) []int64 {
	list := make([]int64, n)
	for i := range list {
		list[i] = int64(source.Uint64()) >> source.Intn(64)
	}
	return list
}

// counts returns a histogram of counts up to the greatest, some of them 0, and some negative if so asked.
func counts(source *rand.Rand, negative bool) Hist {
	var h Hist
	for i := range h {
		switch source.Intn(4) {
		case 0:
			h[i] = int64(source.Uint64()>>1) >> source.Intn(63)
		case 1:
			h[i] = highest - source.Int63n(2)
		}
	}
	if negative {
		h[source.Intn(len(h))] = []int64{-1, lowest, -1 << 40}[source.Intn(3)]
	}
	return h
}

// with returns the histogram of the given pairs of a bucket and its count.
func with(pairs ...int64) Hist {
	var h Hist
	for i := 0; i < len(pairs); i += 2 {
		h[pairs[i]] = pairs[i+1]
	}
	return h
}

// filled returns the histogram of which every count is n.
func filled(n int64) Hist {
	var h Hist
	for i := range h {
		h[i] = n
	}
	return h
}

// exactBucket returns what the chapter defines as the bucket of v.
func exactBucket(v int64) int {
	if v < 0 {
		return 0
	}
	if v == 0 {
		return 1
	}
	k := 0
	for new(big.Int).Lsh(big.NewInt(1), uint(k+1)).Cmp(big.NewInt(v)) <= 0 {
		k++
	}
	return 2 + k
}

// exactOf counts the values one by one.
func exactOf(list []int64) Hist {
	var h Hist
	for _, v := range list {
		h[exactBucket(v)]++
	}
	return h
}

func anyNegative(h Hist) bool {
	for _, n := range h {
		if n < 0 {
			return true
		}
	}
	return false
}

// exactMerge returns what the chapter asks of Merge.
func exactMerge(list []Hist) (Hist, api.Errno) {
	if slices.ContainsFunc(list, anyNegative) {
		return Hist{}, api.ErrForm
	}
	var total Hist
	for bucket := range total {
		sum := new(big.Int)
		for _, h := range list {
			sum.Add(sum, big.NewInt(h[bucket]))
		}
		if !sum.IsInt64() {
			return Hist{}, api.ErrOver
		}
		total[bucket] = sum.Int64()
	}
	return total, api.OK
}

// exactTotal returns the sum of the counts of the buckets before the given one.
func exactTotal(h Hist, buckets int) *big.Int {
	total := new(big.Int)
	for _, n := range h[:buckets] {
		total.Add(total, big.NewInt(n))
	}
	return total
}

// exactRank returns what the chapter asks of Rank.
func exactRank(h Hist, k *big.Int) (int, bool) {
	if anyNegative(h) || k.Sign() < 0 || k.Cmp(exactTotal(h, len(h))) >= 0 {
		return 0, false
	}
	bucket := 0
	for k.Cmp(exactTotal(h, bucket+1)) >= 0 {
		bucket++
	}
	return bucket, true
}

// number returns x, which must fit, as a wide.Int.
func number(t *testing.T, x *big.Int) wide.Int {
	t.Helper()
	n, ok := wide.Parse(x.String())
	if !ok {
		t.Fatalf("%s is no wide.Int", x)
	}
	return n
}

type pair struct {
	bucket int
	count  int64
}

// collected returns what an iterator yields, up to the given number of pairs.
func collected(full func(yield func(int, int64) bool), most int) []pair {
	var list []pair
	for bucket, n := range full {
		list = append(list, pair{bucket, n})
		if len(list) >= most {
			break
		}
	}
	return list
}

// P5.1: the bucket of a value, by hand.
func TestBucket(t *testing.T) {
	for _, c := range []struct {
		v    int64
		want int
	}{
		{lowest, 0}, {lowest + 1, 0}, {-1 << 32, 0}, {-2, 0}, {-1, 0},
		{0, 1}, {1, 2}, {2, 3}, {3, 3}, {4, 4}, {5, 4}, {7, 4}, {8, 5}, {15, 5}, {16, 6},
		{1<<31 - 1, 32}, {1 << 31, 33}, {1<<32 - 1, 33}, {1 << 32, 34},
		{1<<61 - 1, 62}, {1 << 61, 63}, {1<<62 - 1, 63}, {1 << 62, 64}, {highest - 1, 64}, {highest, 64},
	} {
		if v := Bucket(c.v); v != c.want {
			t.Errorf("Bucket(%d) is %d; want %d", c.v, v, c.want)
		}
	}
}

// P5.1 and P1: the definition, at all edges and for varied values; every value lies within the bounds of its bucket.
func TestBucketExactly(t *testing.T) {
	for _, v := range append(edges(), varied(rand.New(rand.NewSource(1)), 20000)...) {
		bucket := Bucket(v)
		if want := exactBucket(v); bucket != want {
			t.Errorf("Bucket(%d) is %d; want %d", v, bucket, want)
		}
		if g, ok := Bounds(bucket); !ok || !g.Has(v) {
			t.Errorf("Bounds(%d) is %v, %t, without %d", bucket, g, ok, v)
		}
	}
}

// P5.1: the bounds of a bucket, by hand.
func TestBounds(t *testing.T) {
	for _, c := range []struct {
		bucket int
		lo, hi int64
		ok     bool
	}{
		{0, lowest, -1, true}, {1, 0, 0, true}, {2, 1, 1, true}, {3, 2, 3, true}, {4, 4, 7, true}, {5, 8, 15, true},
		{32, 1 << 30, 1<<31 - 1, true}, {33, 1 << 31, 1<<32 - 1, true}, {63, 1 << 61, 1<<62 - 1, true}, {64, 1 << 62, highest, true},
		{-1, 0, 0, false}, {65, 0, 0, false}, {66, 0, 0, false}, {67, 0, 0, false}, {128, 0, 0, false}, {-64, 0, 0, false},
		{math.MinInt, 0, 0, false}, {math.MinInt + 1, 0, 0, false}, {math.MaxInt, 0, 0, false}, {1 << 32, 0, 0, false}, {1<<32 + 4, 0, 0, false},
	} {
		if g, ok := Bounds(c.bucket); g != (gap.Gap{Lo: c.lo, Hi: c.hi}) || ok != c.ok {
			t.Errorf("Bounds(%d) is %v, %t; want %d to %d, %t", c.bucket, g, ok, c.lo, c.hi, c.ok)
		}
	}
}

// P5.1: the buckets follow one another from the least value to the greatest, and their ends lie in them.
func TestBucketsCoverAll(t *testing.T) {
	next := int64(lowest)
	for bucket := range 65 {
		g, ok := Bounds(bucket)
		if !ok || !g.Right() || g.Lo != next || Bucket(g.Lo) != bucket || Bucket(g.Hi) != bucket {
			t.Errorf("Bounds(%d) is %v, %t", bucket, g, ok)
		}
		next = g.Hi + 1
	}
	if next != lowest { // one beyond the greatest
		t.Errorf("the last bucket ends before %d", next)
	}
}

// P5.2: the number of values in each bucket, by hand.
func TestOf(t *testing.T) {
	for _, c := range []struct {
		list []int64
		want Hist
	}{
		{nil, Hist{}}, {[]int64{}, Hist{}},
		{[]int64{0, 1, 1, 5}, with(1, 1, 2, 2, 4, 1)},
		{[]int64{5, 1, 0, 1}, with(1, 1, 2, 2, 4, 1)},
		{[]int64{-1}, with(0, 1)}, {[]int64{lowest, -7, lowest, -1}, with(0, 4)},
		{[]int64{highest, 1 << 62, 1<<62 - 1, highest}, with(63, 1, 64, 3)},
		{[]int64{2, 3, 4, 5, 6, 7, 8}, with(3, 2, 4, 4, 5, 1)},
		{[]int64{lowest, 0, highest}, with(0, 1, 1, 1, 64, 1)},
	} {
		if h := Of(c.list...); h != c.want {
			t.Errorf("Of(%v) is %v; want %v", c.list, h, c.want)
		}
	}
}

// P5.2 and P1: varied values are counted one by one, however they are put together.
func TestOfExactly(t *testing.T) {
	source := rand.New(rand.NewSource(2))
	for n := range 60 {
		list := varied(source, n)
		want := exactOf(list)
		if h := Of(list...); h != want {
			t.Errorf("Of(%v) is %v; want %v", list, h, want)
		}
		var one Hist
		for i, v := range list {
			more, err := one.Add(v)
			if err != api.OK || more != exactOf(list[:i+1]) {
				t.Errorf("Add(%d) to %v is %v, %d", v, one, more, err)
			}
			one = more
		}
		cut := source.Intn(n + 1)
		if h, err := Merge(Of(list[:cut]...), Of(list[cut:]...)); h != want || err != api.OK {
			t.Errorf("Merge of both parts of %v is %v, %d; want %v", list, h, err, want)
		}
	}
	if h := Of(edges()...); h != exactOf(edges()) {
		t.Errorf("Of the edges is %v", h)
	}
}

// P5.2: one more value, counts that are full, and histograms that are none.
func TestAdd(t *testing.T) {
	for _, c := range []struct {
		h    Hist
		v    int64
		want Hist
		err  api.Errno
	}{
		{Hist{}, 0, with(1, 1), api.OK}, {Hist{}, -5, with(0, 1), api.OK}, {Hist{}, highest, with(64, 1), api.OK},
		{with(4, 1), 5, with(4, 2), api.OK}, {with(4, 1), 8, with(4, 1, 5, 1), api.OK},
		{with(4, highest-1), 7, with(4, highest), api.OK},
		{with(4, highest), 4, Hist{}, api.ErrOver}, {with(4, highest), 7, Hist{}, api.ErrOver},
		{with(4, highest), 3, with(3, 1, 4, highest), api.OK}, {with(4, highest), 8, with(4, highest, 5, 1), api.OK},
		{with(0, highest), lowest, Hist{}, api.ErrOver}, {with(64, highest), highest, Hist{}, api.ErrOver}, {with(1, highest), 0, Hist{}, api.ErrOver},
		{filled(highest), 1, Hist{}, api.ErrOver},
		{with(4, -1), 5, Hist{}, api.ErrForm}, {with(4, -1), 0, Hist{}, api.ErrForm}, {with(0, lowest), -1, Hist{}, api.ErrForm},
		{with(64, -1), 0, Hist{}, api.ErrForm}, {with(64, -1), highest, Hist{}, api.ErrForm}, {with(0, -1), 1, Hist{}, api.ErrForm},
		// both errors: ErrForm goes first, wherever the counts are
		{with(4, highest, 5, -1), 5, Hist{}, api.ErrForm}, {with(3, -1, 4, highest), 5, Hist{}, api.ErrForm}, {filled(lowest), 5, Hist{}, api.ErrForm},
	} {
		was := c.h
		if h, err := c.h.Add(c.v); h != c.want || err != c.err {
			t.Errorf("Add(%d) to %v is %v, %d; want %v, %d", c.v, was, h, err, c.want, c.err)
		}
		if c.h != was {
			t.Errorf("Add(%d) made %v of %v", c.v, c.h, was)
		}
	}
}

// P5.2: histograms together, counts that do not fit, and histograms that are none.
func TestMerge(t *testing.T) {
	for _, c := range []struct {
		list []Hist
		want Hist
		err  api.Errno
	}{
		{nil, Hist{}, api.OK}, {[]Hist{}, Hist{}, api.OK}, {[]Hist{{}}, Hist{}, api.OK}, {[]Hist{{}, {}}, Hist{}, api.OK},
		{[]Hist{with(4, 7)}, with(4, 7), api.OK}, {[]Hist{filled(highest)}, filled(highest), api.OK},
		{[]Hist{with(0, 1, 4, 7), with(4, 2, 64, 3)}, with(0, 1, 4, 9, 64, 3), api.OK},
		{[]Hist{with(4, 1), {}, with(4, 1), with(5, 1), with(4, 1)}, with(4, 3, 5, 1), api.OK},
		{[]Hist{with(4, highest), {}}, with(4, highest), api.OK}, {[]Hist{{}, filled(highest)}, filled(highest), api.OK},
		{[]Hist{with(4, highest), with(5, highest)}, with(4, highest, 5, highest), api.OK},
		{[]Hist{with(4, highest-5), with(4, 5)}, with(4, highest), api.OK}, {[]Hist{with(4, highest-5), with(4, 6)}, Hist{}, api.ErrOver},
		{[]Hist{with(4, highest), with(4, highest)}, Hist{}, api.ErrOver}, {[]Hist{with(4, 1<<62), with(4, 1<<62)}, Hist{}, api.ErrOver},
		{[]Hist{with(4, 1<<62), with(4, 1<<62), with(4, 1<<62), with(4, 1<<62)}, Hist{}, api.ErrOver}, // 2^64, whose low word is 0
		{[]Hist{with(64, highest, 0, 3), {}, with(64, 1)}, Hist{}, api.ErrOver}, {[]Hist{with(0, highest), with(0, 1)}, Hist{}, api.ErrOver},
		{[]Hist{with(0, -1)}, Hist{}, api.ErrForm}, {[]Hist{with(64, -1)}, Hist{}, api.ErrForm}, {[]Hist{with(30, lowest)}, Hist{}, api.ErrForm},
		{[]Hist{with(4, -1), with(4, 1)}, Hist{}, api.ErrForm}, {[]Hist{with(4, 1), with(4, -1)}, Hist{}, api.ErrForm}, {[]Hist{with(4, 9), {}, with(4, 9, 64, -1)}, Hist{}, api.ErrForm},
		{[]Hist{with(4, lowest), with(4, lowest)}, Hist{}, api.ErrForm}, {[]Hist{filled(-1), filled(highest)}, Hist{}, api.ErrForm},
		// both errors: ErrForm goes first, wherever the histogram is
		{[]Hist{with(4, highest), with(4, highest), with(5, -1)}, Hist{}, api.ErrForm}, {[]Hist{with(5, -1), with(4, highest), with(4, highest)}, Hist{}, api.ErrForm},
		{[]Hist{with(4, highest), with(4, highest, 64, -1)}, Hist{}, api.ErrForm}, {[]Hist{with(4, highest), with(4, 1), with(4, -1)}, Hist{}, api.ErrForm},
	} {
		if h, err := Merge(c.list...); h != c.want || err != c.err {
			t.Errorf("Merge(%v) is %v, %d; want %v, %d", c.list, h, err, c.want, c.err)
		}
	}
}

// P5.2 and P1: any counts at all.
func TestMergeExactly(t *testing.T) {
	source := rand.New(rand.NewSource(3))
	seen := map[api.Errno]int{}
	for i := range 6000 {
		var list []Hist
		for range source.Intn(5) {
			h := counts(source, i%3 == 0)
			if i%3 == 1 { // sums that fit, or nearly do
				for bucket := range h {
					h[bucket] /= 2
				}
			}
			list = append(list, h)
		}
		want, err := exactMerge(list)
		if h, e := Merge(list...); h != want || e != err {
			t.Errorf("Merge(%v) is %v, %d; want %v, %d", list, h, e, want, err)
		}
		seen[err]++
	}
	if seen[api.OK] < 600 || seen[api.ErrForm] < 600 || seen[api.ErrOver] < 600 {
		t.Errorf("errors were %v", seen)
	}
}

// P5.3: the sum of all counts, negative ones too, though 64 bits may not hold it.
func TestTotal(t *testing.T) {
	for _, c := range []struct {
		h    Hist
		want string
	}{
		{Hist{}, "0"}, {Of(0, 1, 1, 5), "4"}, {Of(lowest, highest, -3), "3"}, {filled(1), "65"},
		{with(0, 1), "1"}, {with(64, 1), "1"}, {with(64, -1), "-1"}, {with(0, -5, 64, 3), "-2"}, {with(7, -5, 9, 5), "0"},
		{with(3, highest, 4, 1), "9223372036854775808"}, {with(3, lowest, 4, -1), "-9223372036854775809"},
		{with(3, 1<<62, 4, 1<<62, 5, 1<<62, 6, 1<<62), "18446744073709551616"},
		{filled(highest), "599519182395560427455"}, {filled(lowest), "-599519182395560427520"},
	} {
		if n := wide.Text(c.h.Total()); n != c.want {
			t.Errorf("the total of %v is %s; want %s", c.h, n, c.want)
		}
	}
}

// P5.3 and P1: totals of any counts at all.
func TestTotalExactly(t *testing.T) {
	source := rand.New(rand.NewSource(4))
	for range 4000 {
		var h Hist
		copy(h[:], varied(source, len(h)))
		if n := wide.Text(h.Total()); n != exactTotal(h, len(h)).String() {
			t.Errorf("the total of %v is %s", h, n)
		}
	}
}

// P5.3: the bucket of the value with a number, by hand.
func TestRank(t *testing.T) {
	five := Of(0, 1, 1, 5, -9)
	for _, c := range []struct {
		h    Hist
		k    wide.Int
		want int
		ok   bool
	}{
		{five, wide.Of(0), 0, true}, {five, wide.Of(1), 1, true}, {five, wide.Of(2), 2, true}, {five, wide.Of(3), 2, true}, {five, wide.Of(4), 4, true},
		{five, wide.Of(5), 0, false}, {five, wide.Of(6), 0, false}, {five, wide.Of(-1), 0, false}, {five, wide.Of(lowest), 0, false}, {five, wide.Of(highest), 0, false},
		{five, wide.Int{Hi: 1}, 0, false}, {five, wide.Int{Hi: 1, Lo: 2}, 0, false}, {five, wide.Int{Hi: -1, Lo: 2}, 0, false},
		{five, wide.Int{Lo: math.MaxUint64}, 0, false}, {five, wide.Int{Hi: lowest}, 0, false}, {five, wide.Int{Hi: lowest, Lo: 3}, 0, false}, {five, wide.Int{Hi: highest, Lo: math.MaxUint64}, 0, false},
		{Hist{}, wide.Of(0), 0, false}, {Hist{}, wide.Of(1), 0, false}, {Hist{}, wide.Of(-1), 0, false},
		{with(64, 1), wide.Of(0), 64, true}, {with(64, 1), wide.Of(1), 0, false}, {with(0, 1), wide.Of(0), 0, true}, {with(0, 1), wide.Of(1), 0, false},
		// numbers that 64 bits do not hold
		{with(3, highest, 9, highest), wide.Of(highest - 1), 3, true}, {with(3, highest, 9, highest), wide.Of(highest), 9, true},
		{with(3, highest, 9, highest), wide.Int{Lo: math.MaxUint64 - 2}, 9, true}, {with(3, highest, 9, highest), wide.Int{Lo: math.MaxUint64 - 1}, 0, false},
		{with(3, highest, 9, highest, 10, 2), wide.Int{Lo: math.MaxUint64}, 10, true}, {with(3, highest, 9, highest, 10, 3), wide.Int{Hi: 1}, 10, true},
		{with(3, highest, 9, highest, 10, 2), wide.Int{Hi: 1}, 0, false},
		{filled(highest), wide.Int{Hi: 32, Lo: 1<<63 - 66}, 64, true}, {filled(highest), wide.Int{Hi: 32, Lo: 1<<63 - 65}, 0, false},
		// a negative count anywhere
		{with(3, 5, 4, -1), wide.Of(0), 0, false}, {with(3, 5, 64, -1), wide.Of(2), 0, false}, {with(0, -1, 3, 5), wide.Of(0), 0, false},
		{with(0, -1, 3, 5), wide.Of(4), 0, false}, {with(0, lowest, 64, highest), wide.Of(0), 0, false}, {with(7, -1), wide.Of(-1), 0, false}, {filled(-1), wide.Of(0), 0, false},
	} {
		if bucket, ok := c.h.Rank(c.k); bucket != c.want || ok != c.ok {
			t.Errorf("Rank(%s) of %v is %d, %t; want %d, %t", wide.Text(c.k), c.h, bucket, ok, c.want, c.ok)
		}
	}
}

// P5.3: the ranks of values are those of the sorted ones.
func TestRankOfValues(t *testing.T) {
	source := rand.New(rand.NewSource(5))
	for n := range 60 {
		list := varied(source, n)
		h := Of(list...)
		slices.Sort(list)
		for k, v := range list {
			if bucket, ok := h.Rank(wide.Of(int64(k))); bucket != exactBucket(v) || !ok {
				t.Errorf("Rank(%d) of %v is %d, %t", k, list, bucket, ok)
			}
		}
		for _, k := range []int64{-1, int64(n), int64(n) + 1} {
			if bucket, ok := h.Rank(wide.Of(k)); bucket != 0 || ok {
				t.Errorf("Rank(%d) of %v is %d, %t", k, list, bucket, ok)
			}
		}
	}
}

// P5.3 and P1: any counts at all, and the numbers next to where a bucket begins.
func TestRankExactly(t *testing.T) {
	source := rand.New(rand.NewSource(6))
	for i := range 16 {
		h := counts(source, i%4 == 0)
		for buckets := range len(h) + 1 {
			for d := int64(-2); d <= 1; d++ {
				k := exactTotal(h, buckets)
				k.Add(k, big.NewInt(d))
				want, is := exactRank(h, k)
				if bucket, ok := h.Rank(number(t, k)); bucket != want || ok != is {
					t.Errorf("Rank(%s) of %v is %d, %t; want %d, %t", k, h, bucket, ok, want, is)
				}
			}
		}
	}
}

// P5.3: the buckets that are not empty, in their order.
func TestFull(t *testing.T) {
	for _, c := range []struct {
		h    Hist
		want []pair
	}{
		{Hist{}, nil}, {Of(0, 1, 1, 5), []pair{{1, 1}, {2, 2}, {4, 1}}},
		{with(0, 3), []pair{{0, 3}}}, {with(64, highest), []pair{{64, highest}}},
		{with(64, 1, 63, 2, 1, 3, 0, 4), []pair{{0, 4}, {1, 3}, {63, 2}, {64, 1}}},
		{with(5, -1, 7, lowest, 9, 2), []pair{{5, -1}, {7, lowest}, {9, 2}}},
	} {
		if list := collected(c.h.Full(), 100); !slices.Equal(list, c.want) {
			t.Errorf("the buckets of %v are %v; want %v", c.h, list, c.want)
		}
	}
	source := rand.New(rand.NewSource(7))
	for range 500 {
		h := counts(source, true)
		var want []pair
		for bucket := range 65 {
			if h[bucket] != 0 {
				want = append(want, pair{bucket, h[bucket]})
			}
		}
		if list := collected(h.Full(), 100); !slices.Equal(list, want) {
			t.Errorf("the buckets of %v are %v; want %v", h, list, want)
		}
	}
}

// P5.3 and rule 7: an iterator may be stopped early, at each of its buckets, and used again, also within itself.
func TestFullAgain(t *testing.T) {
	h := Of(-4, 0, 3, 100, highest)
	full := h.Full()
	all := collected(full, 100)
	for most := 1; most <= len(all); most++ {
		if list := collected(full, most); !slices.Equal(list, all[:most]) {
			t.Errorf("the first %d buckets are %v; want %v", most, list, all[:most])
		}
	}
	rounds := 0
	for range full {
		if list := collected(full, 100); !slices.Equal(list, all) {
			t.Errorf("within an iteration the buckets are %v; want %v", list, all)
		}
		rounds++
	}
	if rounds != 5 || len(all) != 5 {
		t.Errorf("%d buckets, and %d at first; want 5", rounds, len(all))
	}
	asked := 0
	full(func(int, int64) bool {
		asked++
		return false
	})
	if asked != 1 {
		t.Errorf("a consumer that stopped was asked %d times", asked)
	}
}

// P5.3 and rule 7: an iteration yields what there was when it began.
func TestFullWhileChanging(t *testing.T) {
	h := with(2, 5, 4, 6, 9, 7)
	var list []pair
	for bucket, n := range h.Full() {
		list = append(list, pair{bucket, n})
		h[4], h[9], h[20] = 60, 0, 8
	}
	if want := []pair{{2, 5}, {4, 6}, {9, 7}}; !slices.Equal(list, want) {
		t.Errorf("the buckets are %v; want %v", list, want)
	}
}

// P1 and rule 4: any counts and any numbers; arguments and receivers are as they were, the memory behind a list's length too.
func TestArgumentsStay(t *testing.T) {
	source := rand.New(rand.NewSource(8))
	values := []int64{9, -4, 0, highest, lowest, 3}
	hists := []Hist{filled(3), with(4, highest), with(9, 1), with(5, -1), filled(lowest)}
	for range 10 {
		hists = append(hists, counts(source, false), counts(source, true))
	}
	wasValues, wasHists := slices.Clone(values), slices.Clone(hists)
	for n := range len(values) + 1 {
		Of(values[:n]...)
	}
	for n := range len(hists) + 1 {
		Merge(hists[:n]...)
	}
	for i := range hists {
		for _, v := range edges() {
			hists[i].Add(v)
			hists[i].Rank(wide.Of(v))
			hists[i].Rank(wide.Int{Hi: v, Lo: uint64(v)})
		}
		hists[i].Total()
		collected(hists[i].Full(), 100)
	}
	if !slices.Equal(values, wasValues) || !slices.Equal(hists, wasHists) {
		t.Errorf("the lists became %v and %v", values, hists)
	}
}

// P5.2: long lists are added up whole.
func TestLongLists(t *testing.T) {
	const n = 100000
	values := make([]int64, n)
	hists := make([]Hist, n)
	for i := range n {
		values[i] = int64(i)
		hists[i] = with(int64(i%64), 2, 64, 1)
	}
	h := Of(values...)
	if h[0] != 0 || h[1] != 1 || h[2] != 1 || h[17] != 1<<15 || h[18] != n-1<<16 || wide.Text(h.Total()) != "100000" {
		t.Errorf("of %d values: %v", n, h)
	}
	if h, err := Merge(hists...); err != api.OK || h[0] != 2*(n/64+1) || h[63] != 2*(n/64) || h[64] != n {
		t.Errorf("of %d histograms: %v, %d", n, h, err)
	}
}
