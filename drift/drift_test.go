package drift

import (
	"math"
	"math/big"
	"math/rand"
	"slices"
	"testing"

	"noonmark/api"
)

const (
	lowest  = math.MinInt64
	highest = math.MaxInt64
	million = api.Million
)

// distances returns differences of readings around every edge, many of them out of range.
func distances() []int64 {
	list := []int64{lowest, lowest + 1, highest - 1, highest}
	for d := int64(-130); d <= 130; d++ {
		list = append(list, d)
	}
	for _, bit := range []int{20, 31, 32, 42, 43, 44, 53, 60, 61, 62} {
		for d := int64(-2); d <= 2; d++ {
			list = append(list, 1<<bit+d, -1<<bit+d)
		}
	}
	for _, x := range []int64{900000, 990000, 999999, million, 1000001, 1010000, 1100000} {
		for d := int64(-2); d <= 2; d++ {
			list = append(list, x+d, -x+d)
		}
	}
	return list
}

// rates returns rates, and numbers that are none.
func rates() []int64 {
	return []int64{lowest, -million, -2, -1, 0, 1, 2, 3, 499, 500, 10000, 33333, 50000, 99999, 100000, 100001, 100002, million, million + 1, highest}
}

func realRate(rho int64) bool {
	return rho >= 0 && rho <= 100000
}

// rounded returns a * b / c, rounded up or down.
func rounded(a, b, c int64, up bool) int64 {
	rem := new(big.Int)
	quo, _ := new(big.Int).DivMod(new(big.Int).Mul(big.NewInt(a), big.NewInt(b)), big.NewInt(c), rem)
	if up && rem.Sign() != 0 {
		quo.Add(quo, big.NewInt(1))
	}
	return quo.Int64()
}

// exactLow returns what the chapter defines as Low.
func exactLow(x, rho int64) (int64, api.Errno) {
	switch {
	case x < -(1<<62) || x > 1<<62 || !realRate(rho):
		return 0, api.ErrRange
	case x > 0:
		return max(1, rounded(x-1, million, million+rho, true)), api.OK
	}
	return -rounded(1-x, million, million-rho, false), api.OK
}

// exactHigh returns what the chapter defines as High.
func exactHigh(x, rho int64) (int64, api.Errno) {
	if x == lowest {
		return 0, api.ErrRange
	}
	low, err := exactLow(-x, rho)
	return -low, err
}

// exactSlack returns what the chapter defines as Slack.
func exactSlack(a, rho int64) (int64, api.Errno) {
	if a < 0 || a > 1<<62 || !realRate(rho) {
		return 0, api.ErrRange
	}
	return rounded(a, rho, million-rho, true), api.OK
}

// allowed reports whether an honest clock may advance by c while the true time advances by d, which is not negative.
func allowed(d, c, rho int64) bool {
	if c < 0 || d == 0 && c != 0 {
		return false
	}
	off := new(big.Int).Sub(big.NewInt(c), big.NewInt(d))
	off.Abs(off).Mul(off, big.NewInt(million))
	most := new(big.Int).Mul(big.NewInt(rho), big.NewInt(d))
	return off.Cmp(most.Add(most, big.NewInt(million))) <= 0
}

// readable reports whether all the points are times.
func readable(list []Point) bool {
	for _, p := range list {
		if p.True < 0 || p.Clock < 0 || p.True >= 1<<62 || p.Clock >= 1<<62 {
			return false
		}
	}
	return true
}

// exactHonest returns what the chapter asks of Honest, pair by pair.
func exactHonest(rho int64, list []Point) bool {
	if !realRate(rho) || !readable(list) {
		return false
	}
	for _, p := range list {
		for _, q := range list {
			if p.True <= q.True && !allowed(q.True-p.True, q.Clock-p.Clock, rho) {
				return false
			}
		}
	}
	return true
}

// exactLeast returns the greatest of the rates that single pairs need.
func exactLeast(list []Point) (int64, bool) {
	if !readable(list) {
		return 0, false
	}
	least := int64(0)
	for _, p := range list {
		for _, q := range list {
			d, c := q.True-p.True, q.Clock-p.Clock
			if d < 0 {
				continue
			}
			if c < 0 || d == 0 && c != 0 {
				return 0, false
			}
			if off := max(c-d, d-c); off > 1 {
				need := new(big.Int).Mul(big.NewInt(off-1), big.NewInt(million))
				need.Add(need, big.NewInt(d-1)).Div(need, big.NewInt(d))
				if !need.IsInt64() || need.Int64() > 100000 {
					return 0, false
				}
				least = max(least, need.Int64())
			}
		}
	}
	return least, true
}

// walk returns readings of a clock that keeps to the rate but for an error of up to loose ticks a step; the steps have all lengths up to the given number of bits.
func walk(source *rand.Rand, n int, rho, loose int64, bits int) []Point {
	p := Point{int64(source.Uint64() >> (2 + source.Intn(62))), int64(source.Uint64() >> (2 + source.Intn(62)))}
	var list []Point
	for range n {
		list = append(list, p)
		d := int64(source.Uint64() >> (64 - source.Intn(bits+1)))
		p.True += d
		p.Clock += d
		if d > 0 {
			drift := rounded(rho, d, million, false) + loose
			p.Clock += []int64{-drift, drift, 0, source.Int63n(2*drift+1) - drift}[source.Intn(4)]
		}
	}
	source.Shuffle(n, func(i, j int) { list[i], list[j] = list[j], list[i] })
	return list
}

// faithful returns readings of a clock that is honest for rho, each as far to one side as all earlier ones allow, or somewhere between.
func faithful(source *rand.Rand, n int, rho int64, bits int) []Point {
	list := []Point{{source.Int63n(1 << 40), source.Int63n(1 << 40)}}
	for len(list) < n {
		d := 1 + int64(source.Uint64()>>(64-source.Intn(bits+1)))
		now := list[len(list)-1].True + d
		low, high := int64(0), int64(highest)
		for _, p := range list {
			d := now - p.True
			drift := rounded(rho, d, million, false) + 1
			low = max(low, p.Clock+max(0, d-drift))
			high = min(high, p.Clock+d+drift)
		}
		if low > high {
			break // whole ticks leave no room between two that pull apart
		}
		list = append(list, Point{now, []int64{low, high, low + source.Int63n(high-low+1)}[source.Intn(3)]})
	}
	return list
}

func checkHonest(t *testing.T, rho int64, list []Point) bool {
	t.Helper()
	want := exactHonest(rho, list)
	if v := Honest(rho, list...); v != want {
		t.Errorf("Honest(%d, %v) is %t", rho, list, v)
	}
	return want
}

func checkLeast(t *testing.T, list []Point) bool {
	t.Helper()
	want, ok := exactLeast(list)
	if v, is := Least(list...); v != want || is != ok {
		t.Errorf("Least(%v) is %d, %t; want %d, %t", list, v, is, want, ok)
	}
	if ok && (!Honest(want, list...) || Honest(want-1, list...)) {
		t.Errorf("Least(%v) is %d, but Honest has another one", list, want)
	}
	return ok
}

// P4.1: Low and High, with quotients that are whole and that are not.
func TestLowAndHigh(t *testing.T) {
	for _, c := range []struct{ x, rho, low, high int64 }{
		{0, 0, -1, 1}, {1, 0, 1, 2}, {2, 0, 1, 3}, {3, 0, 2, 4}, {100, 0, 99, 101},
		{-1, 0, -2, -1}, {-2, 0, -3, -1}, {-3, 0, -4, -2}, {-100, 0, -101, -99},
		{0, 10000, -1, 1}, {0, 100000, -1, 1}, {1, 100000, 1, 2}, {2, 100000, 1, 3},
		{101, 10000, 100, 103}, {102, 10000, 100, 104}, {103, 10000, 101, 105},
		{98, 10000, 97, 100}, {97, 10000, 96, 98}, {-98, 10000, -100, -97}, {-97, 10000, -98, -96},
		{12, 100000, 10, 14}, {13, 100000, 11, 15}, {8, 100000, 7, 10}, {7, 100000, 6, 8},
		{-12, 100000, -14, -10}, {-13, 100000, -15, -11}, {-8, 100000, -10, -7}, {-7, 100000, -8, -6},
		{million + 2, 1, million, million + 4}, {million + 3, 1, million + 1, million + 5},
		{999998, 1, 999997, million}, {999997, 1, 999996, 999998},
		{1 << 62, 0, 1<<62 - 1, 1<<62 + 1}, {-1 << 62, 0, -1<<62 - 1, -1<<62 + 1},
		{1 << 62, 100000, 4192441834933989003, 5124095576030431005}, {-1 << 62, 100000, -5124095576030431005, -4192441834933989003},
	} {
		if v, e := Low(c.x, c.rho); v != c.low || e != api.OK {
			t.Errorf("Low(%d, %d) is %d, %d; want %d", c.x, c.rho, v, e, c.low)
		}
		if v, e := High(c.x, c.rho); v != c.high || e != api.OK {
			t.Errorf("High(%d, %d) is %d, %d; want %d", c.x, c.rho, v, e, c.high)
		}
	}
}

// P4.1: Slack is rounded up.
func TestSlack(t *testing.T) {
	for _, c := range []struct{ a, rho, want int64 }{
		{0, 0, 0}, {0, 100000, 0}, {1, 0, 0}, {1, 1, 1}, {1, 100000, 1},
		{99, 10000, 1}, {100, 10000, 2}, {98, 10000, 1}, {9, 100000, 1}, {10, 100000, 2}, {18, 100000, 2},
		{999999, 1, 1}, {million, 1, 2},
		{1 << 62, 0, 0}, {1 << 62, 100000, 512409557603043101}, {1<<62 - 1, 100000, 512409557603043101},
	} {
		if v, e := Slack(c.a, c.rho); v != c.want || e != api.OK {
			t.Errorf("Slack(%d, %d) is %d, %d; want %d", c.a, c.rho, v, e, c.want)
		}
	}
}

// P4.1: numbers out of bounds, and the last ones within.
func TestOutOfRange(t *testing.T) {
	for _, c := range []struct {
		x, rho int64
		low    api.Errno
		slack  api.Errno
	}{
		{1 << 62, 100000, api.OK, api.OK},
		{1<<62 + 1, 0, api.ErrRange, api.ErrRange},
		{-1 << 62, 0, api.OK, api.ErrRange},
		{-1<<62 - 1, 0, api.ErrRange, api.ErrRange},
		{-1, 0, api.OK, api.ErrRange},
		{highest, 5, api.ErrRange, api.ErrRange},
		{lowest, 5, api.ErrRange, api.ErrRange},
		{lowest, lowest, api.ErrRange, api.ErrRange},
		{7, 100001, api.ErrRange, api.ErrRange},
		{7, -1, api.ErrRange, api.ErrRange},
		{7, million, api.ErrRange, api.ErrRange}, // nothing to divide by
		{7, -million, api.ErrRange, api.ErrRange},
		{0, highest, api.ErrRange, api.ErrRange},
		{0, lowest, api.ErrRange, api.ErrRange},
		{0, 0, api.OK, api.OK},
	} {
		for _, f := range []struct {
			name string
			f    func(x, rho int64) (int64, api.Errno)
			want api.Errno
		}{{"Low", Low, c.low}, {"High", High, c.low}, {"Slack", Slack, c.slack}} {
			v, e := f.f(c.x, c.rho)
			if e != f.want || e != api.OK && v != 0 {
				t.Errorf("%s(%d, %d) is %d, %d; want %d", f.name, c.x, c.rho, v, e, f.want)
			}
		}
	}
}

func checkNumbers(t *testing.T, x, rho int64) {
	t.Helper()
	for _, f := range []struct {
		name       string
		got, exact func(x, rho int64) (int64, api.Errno)
	}{{"Low", Low, exactLow}, {"High", High, exactHigh}, {"Slack", Slack, exactSlack}} {
		v, e := f.got(x, rho)
		want, err := f.exact(x, rho)
		if v != want || e != err {
			t.Errorf("%s(%d, %d) is %d, %d; want %d, %d", f.name, x, rho, v, e, want, err)
		}
	}
}

// P4.1 and P1: all edges at all rates, and varied numbers.
func TestNumbersExactly(t *testing.T) {
	for _, x := range distances() {
		for _, rho := range rates() {
			checkNumbers(t, x, rho)
		}
	}
	source := rand.New(rand.NewSource(1))
	for range 20000 {
		checkNumbers(t, int64(source.Uint64())>>source.Intn(64), source.Int63n(100003)-1)
	}
}

// P4.3: the bounds are those of all that an honest clock may do, and no wider.
func TestBoundsHoldAndAreTight(t *testing.T) {
	for _, rho := range []int64{0, 1, 10000, 50000, 77777, 99999, 100000} {
		for c := int64(0); c <= 80; c++ {
			least, most := int64(highest), int64(-1)
			for d := int64(0); d <= 120; d++ {
				if allowed(d, c, rho) {
					least, most = min(least, d), max(most, d)
				}
			}
			low, _ := Low(c, rho)
			high, _ := High(c, rho)
			if c == 0 {
				least = -most // the later argument may be of the earlier time
			}
			if low != least || high != most {
				t.Errorf("at rate %d, %d is from %d to %d; want %d to %d", rho, c, low, high, least, most)
			}
			back, _ := Low(-c, rho)
			ahead, _ := High(-c, rho)
			if back != -most || ahead != -least {
				t.Errorf("at rate %d, %d is from %d to %d; want %d to %d", rho, -c, back, ahead, -most, -least)
			}
		}
	}
}

// P4.3: so are they for readings that are far apart.
func TestBoundsFarApart(t *testing.T) {
	for _, rho := range []int64{0, 1, 10000, 77777, 100000} {
		for _, c := range []int64{million, million + 2, 1 << 40, 1<<53 + 1, 1<<61 - 7, 1 << 62} {
			low, _ := Low(c, rho)
			high, _ := High(c, rho)
			if !allowed(low, c, rho) || allowed(low-1, c, rho) || !allowed(high, c, rho) || allowed(high+1, c, rho) {
				t.Errorf("at rate %d, %d is from %d to %d", rho, c, low, high)
			}
		}
	}
}

// P4.2 and P4.3: honest clocks that go to their limits are Honest, and every two of their readings are within the bounds.
func TestHonestClocks(t *testing.T) {
	source := rand.New(rand.NewSource(2))
	for i := range 2000 {
		rho := []int64{0, 1, 500, 10000, 100000, source.Int63n(100001)}[i%6]
		list := faithful(source, 2+source.Intn(12), rho, []int{4, 10, 30, 57}[i%4])
		if !Honest(rho, list...) {
			t.Errorf("Honest(%d, %v) is false", rho, list)
		}
		if v, ok := Least(list...); !ok || v > rho {
			t.Errorf("Least(%v) is %d, %t; want at most %d", list, v, ok, rho)
		}
		for _, p := range list {
			for _, q := range list {
				low, lowErr := Low(q.Clock-p.Clock, rho)
				high, highErr := High(q.Clock-p.Clock, rho)
				if d := q.True - p.True; d < low || d > high || lowErr != api.OK || highErr != api.OK {
					t.Errorf("at rate %d, %v to %v is not from %d to %d", rho, p, q, low, high)
				}
			}
		}
	}
}

// P4.2: Honest, by hand.
func TestHonest(t *testing.T) {
	const end = api.MaxTime
	for _, c := range []struct {
		rho  int64
		list []Point
		want bool
	}{
		{0, nil, true}, {100000, nil, true}, {-1, nil, false}, {100001, nil, false}, {lowest, []Point{}, false}, {highest, []Point{}, false},
		{0, []Point{{0, 0}}, true}, {0, []Point{{end, end}}, true}, {0, []Point{{end, 0}}, true}, {0, []Point{{0, end}}, true},
		{-1, []Point{{0, 0}}, false}, {100001, []Point{{0, 0}}, false},
		{9, []Point{{-1, 0}}, false}, {9, []Point{{0, -1}}, false}, {9, []Point{{end + 1, 0}}, false}, {9, []Point{{0, end + 1}}, false},
		{9, []Point{{lowest, 0}}, false}, {9, []Point{{0, highest}}, false}, {9, []Point{{highest, highest}}, false}, {9, []Point{{lowest, highest}}, false},
		{9, []Point{{3, 3}, {4, 4}, {-1, -1}}, false}, {9, []Point{{3, 3}, {end + 1, end + 1}, {4, 4}}, false},
		// one time has one reading
		{0, []Point{{5, 7}, {5, 7}}, true}, {100000, []Point{{5, 7}, {5, 8}}, false}, {100000, []Point{{5, 8}, {5, 7}}, false},
		{100000, []Point{{4, 6}, {5, 7}, {5, 8}, {6, 8}}, false},
		// a clock may stand for a tick, but does not go back
		{0, []Point{{0, 8}, {1, 8}}, true}, {0, []Point{{0, 8}, {2, 8}}, false}, {100000, []Point{{0, 8}, {2, 8}}, false},
		{100000, []Point{{0, 8}, {1, 7}}, false}, {100000, []Point{{1, 7}, {0, 8}}, false},
		// one tick more or less, and the share of the rate
		{0, []Point{{0, 0}, {10, 11}}, true}, {0, []Point{{0, 0}, {10, 9}}, true}, {0, []Point{{0, 0}, {10, 12}}, false}, {0, []Point{{0, 0}, {10, 8}}, false},
		{100000, []Point{{0, 0}, {10, 12}}, true}, {99999, []Point{{0, 0}, {10, 12}}, false},
		{100000, []Point{{0, 0}, {10, 8}}, true}, {99999, []Point{{0, 0}, {10, 8}}, false},
		{100000, []Point{{10, 8}, {0, 0}}, true}, {99999, []Point{{10, 8}, {0, 0}}, false},
		{100000, []Point{{0, 0}, {10, 13}}, false}, {100000, []Point{{0, 0}, {10, 7}}, false},
		{1, []Point{{0, 3}, {million, million + 5}}, true}, {1, []Point{{0, 3}, {million - 1, million + 4}}, false}, // nothing is rounded
		{1, []Point{{0, 3}, {million, million + 1}}, true}, {1, []Point{{0, 3}, {million - 1, million}}, false},
		// neighbours agree, but not those further apart
		{0, []Point{{0, 0}, {10, 11}, {20, 22}}, false}, {50000, []Point{{0, 0}, {10, 11}, {20, 22}}, true}, {49999, []Point{{0, 0}, {10, 11}, {20, 22}}, false},
		{0, []Point{{0, 5}, {10, 14}, {20, 23}}, false}, {50000, []Point{{20, 23}, {0, 5}, {10, 14}}, true}, {49999, []Point{{20, 23}, {0, 5}, {10, 14}}, false},
		{0, []Point{{0, 5}, {10, 16}, {20, 25}, {30, 36}, {40, 45}}, true}, {0, []Point{{0, 5}, {10, 16}, {20, 25}, {30, 34}, {40, 45}}, false},
		// times that are as far apart as may be
		{0, []Point{{0, 0}, {end, end}}, true}, {0, []Point{{0, 0}, {end, end - 1}}, true}, {0, []Point{{0, 1}, {end, end}}, true}, {0, []Point{{0, 0}, {end, end - 2}}, false},
		{1, []Point{{0, 0}, {end, end - 4611686018427}}, true}, {1, []Point{{0, 0}, {end, end - 4611686018428}}, true}, {1, []Point{{0, 0}, {end, end - 4611686018429}}, false},
		{100000, []Point{{0, 0}, {end, 0}}, false}, {100000, []Point{{0, 0}, {0, end}}, false}, {100000, []Point{{0, end}, {end, 0}}, false},
	} {
		if v := Honest(c.rho, c.list...); v != c.want {
			t.Errorf("Honest(%d, %v) is %t", c.rho, c.list, v)
		}
	}
}

// P4.2: Least, by hand.
func TestLeast(t *testing.T) {
	const end = api.MaxTime
	for _, c := range []struct {
		list []Point
		want int64
		ok   bool
	}{
		{nil, 0, true}, {[]Point{}, 0, true}, {[]Point{{7, 7000}}, 0, true}, {[]Point{{end, 0}}, 0, true},
		{[]Point{{-1, 0}}, 0, false}, {[]Point{{0, -1}}, 0, false}, {[]Point{{end + 1, 0}}, 0, false}, {[]Point{{0, end + 1}}, 0, false},
		{[]Point{{lowest, highest}}, 0, false}, {[]Point{{1, 1}, {2, 2}, {highest, lowest}}, 0, false},
		{[]Point{{5, 7}, {5, 7}}, 0, true}, {[]Point{{5, 7}, {5, 8}}, 0, false}, {[]Point{{1, 7}, {0, 8}}, 0, false},
		{[]Point{{0, 0}, {10, 11}}, 0, true}, {[]Point{{0, 0}, {10, 9}}, 0, true},
		{[]Point{{0, 0}, {10, 12}}, 100000, true}, {[]Point{{0, 0}, {10, 8}}, 100000, true}, {[]Point{{10, 8}, {0, 0}}, 100000, true},
		{[]Point{{0, 0}, {10, 13}}, 0, false}, {[]Point{{0, 0}, {10, 7}}, 0, false}, {[]Point{{0, 0}, {9, 11}}, 0, false},
		{[]Point{{0, 0}, {11, 13}}, 90910, true}, {[]Point{{0, 0}, {12, 14}}, 83334, true}, {[]Point{{0, 0}, {16, 14}}, 62500, true},
		{[]Point{{0, 0}, {million, million + 2}}, 1, true}, {[]Point{{0, 0}, {million - 1, million + 1}}, 2, true}, {[]Point{{0, 0}, {million, million - 2}}, 1, true},
		{[]Point{{0, 0}, {10, 11}, {20, 22}}, 50000, true}, {[]Point{{20, 23}, {0, 5}, {10, 14}}, 50000, true},
		{[]Point{{0, 0}, {1000, 1001}, {2000, 2002}, {3000, 3003}}, 667, true},
		{[]Point{{0, 0}, {end, end}}, 0, true}, {[]Point{{0, 0}, {end, end - 2}}, 1, true}, {[]Point{{0, 0}, {end, 0}}, 0, false},
		{[]Point{{0, 0}, {end, end - 4611686018428}}, 1, true}, {[]Point{{0, 0}, {end, end - 4611686018429}}, 2, true},
		{[]Point{{0, 0}, {end, end - 461168601842738791}}, 100000, true}, {[]Point{{0, 0}, {end, end - 461168601842738792}}, 0, false},
	} {
		if v, ok := Least(c.list...); v != c.want || ok != c.ok {
			t.Errorf("Least(%v) is %d, %t; want %d, %t", c.list, v, ok, c.want, c.ok)
		}
	}
}

// P4.2: all sets of three points among the small ones.
func TestSmallExactly(t *testing.T) {
	var all []Point
	for i := int64(-1); i < 5; i++ {
		for j := int64(-1); j < 5; j++ {
			all = append(all, Point{3 * i, 3 * j}, Point{3*i + 2, 3*j + 1})
		}
	}
	for i, p := range all {
		for j, q := range all[:i+1] {
			for _, r := range all[:j+1] {
				list := []Point{q, p, r}
				checkLeast(t, list)
				checkHonest(t, 0, list)
				checkHonest(t, 100000, list)
			}
		}
	}
}

// P4.2 and P1: clocks that drift by about the rate, in steps of every length.
func TestWalksExactly(t *testing.T) {
	source := rand.New(rand.NewSource(3))
	honest, some := 0, 0
	const walks = 20000
	for i := range walks {
		rho := []int64{0, 1, 500, 10000, 99999, 100000, source.Int63n(100001)}[i%7]
		list := walk(source, 1+source.Intn(8), rho, int64(i%3), []int{3, 8, 20, 40, 62}[i%5])
		if checkHonest(t, rho, list) {
			honest++
		}
		if checkLeast(t, list) {
			some++
		}
		for _, other := range []int64{rho - 1, rho + 1, -1, 100001} {
			checkHonest(t, other, list)
		}
	}
	if honest < walks/10 || honest > walks*9/10 || some < walks/10 || some > walks*9/10 {
		t.Errorf("of %d walks, %d are honest and %d have a rate", walks, honest, some)
	}
}

// P1: any numbers at all.
func TestAnyNumbers(t *testing.T) {
	edges := []int64{lowest, lowest + 1, -1 << 62, -1, 0, 1, api.MaxTime - 1, api.MaxTime, api.MaxTime + 1, highest - 1, highest}
	for _, a := range edges {
		for _, b := range edges {
			for _, c := range edges {
				for _, d := range edges {
					list := []Point{{a, b}, {c, d}}
					checkLeast(t, list)
					checkHonest(t, 0, list)
					checkHonest(t, 100000, list)
				}
			}
		}
	}
}

// P1 and P4.2: a list of more points than pairs of them could be looked at, one of which is off by a tick.
func TestLongLists(t *testing.T) {
	const n = 200000
	var list []Point
	for i := range int64(n) {
		list = append(list, Point{1000 * i, 5 + 1010*i + i%2})
	}
	rand.New(rand.NewSource(4)).Shuffle(n, func(i, j int) { list[i], list[j] = list[j], list[i] })
	if v, ok := Least(list...); v != 10000 || !ok || !Honest(10000, list...) || Honest(9999, list...) {
		t.Errorf("Least is %d, %t", v, ok)
	}
	list[n/3].Clock += 2
	if Honest(10000, list...) {
		t.Error("a reading that is too great is Honest")
	}
}

// Rule 4: the points are as they were, the memory behind a list's length too.
func TestArgumentsStay(t *testing.T) {
	list := []Point{{9, 9}, {4, 4}, {-1, 3}, {7, 7}, {2, 2}}
	was := slices.Clone(list)
	for n := range len(list) + 1 {
		Honest(100000, list[:n]...)
		Least(list[:n]...)
	}
	if !slices.Equal(list, was) {
		t.Errorf("the list became %v", list)
	}
}
