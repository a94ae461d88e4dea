package safe

import (
	"math"
	"math/big"
	"math/rand"
	"slices"
	"testing"

	"noonmark/api"
)

const (
	least = math.MinInt64
	most  = math.MaxInt64
)

// edges returns numbers around every place where a result may begin not to fit.
func edges() []int64 {
	list := []int64{least, least + 1, least + 2, -3, -2, -1, 0, 1, 2, 3, most - 2, most - 1, most}
	for _, bit := range []int{15, 30, 31, 32, 33, 61, 62} {
		for d := int64(-1); d <= 1; d++ {
			list = append(list, 1<<bit+d, -1<<bit+d)
		}
	}
	return append(list, 3037000499, 3037000500, -3037000499, -3037000500) // the roots of 2^63
}

// varied returns numbers of every length and sign, the same ones in every run.
func varied(n int, seed int64) []int64 {
	source := rand.New(rand.NewSource(seed))
	list := make([]int64, n)
	for i := range list {
		list[i] = int64(source.Uint64()) >> source.Intn(64)
	}
	return list
}

// fitted returns what the chapter asks for the exact result x.
func fitted(x *big.Int) (int64, api.Errno) {
	if !x.IsInt64() {
		return 0, api.ErrOver
	}
	return x.Int64(), api.OK
}

// exactRatio returns what the chapter asks of Ratio.
func exactRatio(a, b, c int64, up bool) (int64, api.Errno) {
	if c < 1 {
		return 0, api.ErrRange
	}
	product := new(big.Int).Mul(big.NewInt(a), big.NewInt(b))
	rem := new(big.Int)
	quo, _ := new(big.Int).DivMod(product, big.NewInt(c), rem) // rounded down, as c is positive
	if up && rem.Sign() != 0 {
		quo.Add(quo, big.NewInt(1))
	}
	return fitted(quo)
}

func checkPair(t *testing.T, a, b int64) {
	t.Helper()
	for _, f := range []struct {
		name  string
		got   func(a, b int64) (int64, api.Errno)
		exact func(z, x, y *big.Int) *big.Int
	}{{"Add", Add, (*big.Int).Add}, {"Sub", Sub, (*big.Int).Sub}, {"Mul", Mul, (*big.Int).Mul}} {
		v, e := f.got(a, b)
		want, err := fitted(f.exact(new(big.Int), big.NewInt(a), big.NewInt(b)))
		if v != want || e != err {
			t.Errorf("%s(%d, %d) is %d, %d; want %d, %d", f.name, a, b, v, e, want, err)
		}
	}
}

func checkSum(t *testing.T, list ...int64) {
	t.Helper()
	total := new(big.Int)
	for _, x := range list {
		total.Add(total, big.NewInt(x))
	}
	want, err := fitted(total)
	if v, e := Sum(list...); v != want || e != err {
		t.Errorf("Sum(%v) is %d, %d; want %d, %d", list, v, e, want, err)
	}
}

func checkRatio(t *testing.T, a, b, c int64) {
	t.Helper()
	for _, up := range []bool{false, true} {
		v, e := Ratio(a, b, c, up)
		want, err := exactRatio(a, b, c, up)
		if v != want || e != err {
			t.Errorf("Ratio(%d, %d, %d, %t) is %d, %d; want %d, %d", a, b, c, up, v, e, want, err)
		}
	}
}

// P1.1: the exact result of two numbers, or ErrOver.
func TestPairs(t *testing.T) {
	for _, c := range []struct {
		name string
		f    func(a, b int64) (int64, api.Errno)
		a, b int64
		want int64
		err  api.Errno
	}{
		{"Add", Add, 2, 3, 5, api.OK},
		{"Add", Add, 2, -3, -1, api.OK},
		{"Add", Add, most - 1, 1, most, api.OK},
		{"Add", Add, most, 1, 0, api.ErrOver},
		{"Add", Add, least + 1, -1, least, api.OK},
		{"Add", Add, least, -1, 0, api.ErrOver},
		{"Add", Add, least, least, 0, api.ErrOver},
		{"Sub", Sub, 2, 3, -1, api.OK},
		{"Sub", Sub, -1, least, most, api.OK},
		{"Sub", Sub, 0, least, 0, api.ErrOver},
		{"Sub", Sub, -2, most, 0, api.ErrOver},
		{"Sub", Sub, -1, most, least, api.OK},
		{"Sub", Sub, least, least, 0, api.OK},
		{"Mul", Mul, -3, 5, -15, api.OK},
		{"Mul", Mul, least, 1, least, api.OK},
		{"Mul", Mul, least, -1, 0, api.ErrOver},
		{"Mul", Mul, least, 0, 0, api.OK},
		{"Mul", Mul, 1 << 32, 1 << 31, 0, api.ErrOver},
		{"Mul", Mul, 1 << 32, -1 << 31, least, api.OK},
		{"Mul", Mul, 1 << 32, 1 << 32, 0, api.ErrOver}, // 2^64, whose low word is 0
		{"Mul", Mul, least, 2, 0, api.ErrOver},
	} {
		if v, e := c.f(c.a, c.b); v != c.want || e != c.err {
			t.Errorf("%s(%d, %d) is %d, %d; want %d, %d", c.name, c.a, c.b, v, e, c.want, c.err)
		}
	}
}

// P1.1 and P1: all pairs of edges, and varied ones.
func TestPairsExactly(t *testing.T) {
	for _, a := range edges() {
		for _, b := range edges() {
			checkPair(t, a, b)
		}
	}
	list := varied(20000, 1)
	for i := 0; i+1 < len(list); i += 2 {
		checkPair(t, list[i], list[i+1])
	}
}

// P1.1: only the total of a Sum matters.
func TestSum(t *testing.T) {
	for _, c := range []struct {
		list []int64
		want int64
		err  api.Errno
	}{
		{nil, 0, api.OK},
		{[]int64{}, 0, api.OK},
		{[]int64{-7}, -7, api.OK},
		{[]int64{1, 2, 3, -10}, -4, api.OK},
		{[]int64{1 << 62, 1 << 62, -1}, most, api.OK},
		{[]int64{1 << 62, 1 << 62}, 0, api.ErrOver},
		{[]int64{least, -1, 1}, least, api.OK},
		{[]int64{least, -1}, 0, api.ErrOver},
		{[]int64{most, 1}, 0, api.ErrOver},
		{[]int64{most, most, most, least, least, least}, -3, api.OK},
		{[]int64{most, most, 2}, 0, api.ErrOver}, // 2^64, whose low word is 0
		{[]int64{least, least}, 0, api.ErrOver},  // -2^64, likewise
		{[]int64{most, most, 2, -1, 1, -3}, 0, api.ErrOver},
	} {
		if v, e := Sum(c.list...); v != c.want || e != c.err {
			t.Errorf("Sum(%v) is %d, %d; want %d, %d", c.list, v, e, c.want, c.err)
		}
	}
}

// P1.1 and P1: sums of edges, and of varied lists.
func TestSumExactly(t *testing.T) {
	for _, a := range edges() {
		for _, b := range edges() {
			checkSum(t, a, b)
			checkSum(t, a, b, b, a, -1)
			checkSum(t, a, a, a, b)
		}
	}
	list := varied(20000, 2)
	for n := 0; n <= 200; n++ {
		checkSum(t, list[:n]...)
		checkSum(t, list[n*99:n*100]...)
	}
}

// P1.1: partial sums far beyond 64 bits, which come back.
func TestSumLong(t *testing.T) {
	list := append(slices.Repeat([]int64{most}, 100000), slices.Repeat([]int64{least}, 100000)...)
	checkSum(t, list...)
	checkSum(t, append(list, 99999)...)
	checkSum(t, list[:100001]...)
}

// Rule 4: the list is as it was, the memory behind its length too.
func TestSumKeepsItsList(t *testing.T) {
	list := []int64{3, -4, most, 9}
	was := slices.Clone(list)
	Sum(list[:3]...)
	if !slices.Equal(list, was) {
		t.Errorf("the list became %v", list)
	}
}

// P1.2: the rounded quotient, then whether it fits; ErrRange first.
func TestRatio(t *testing.T) {
	for _, c := range []struct {
		a, b, c int64
		up      bool
		want    int64
		err     api.Errno
	}{
		{7, 3, 2, false, 10, api.OK},
		{7, 3, 2, true, 11, api.OK},
		{-7, 3, 2, false, -11, api.OK},
		{-7, 3, 2, true, -10, api.OK},
		{-7, -3, 2, false, 10, api.OK},
		{-7, -3, 2, true, 11, api.OK},
		{-1, 1, most, false, -1, api.OK},
		{-1, 1, most, true, 0, api.OK},
		{1, 1, most, false, 0, api.OK},
		{1, 1, most, true, 1, api.OK},
		{8, -3, 2, false, -12, api.OK},
		{8, -3, 2, true, -12, api.OK},
		{0, -5, 9, false, 0, api.OK},
		{0, -5, 9, true, 0, api.OK},
		{most, most, most, true, most, api.OK}, // the product is exact
		{least, most, most, false, least, api.OK},
		{least, -1, 1, false, 0, api.ErrOver},
		{least, 1, 1, true, least, api.OK},
		{most, 2, 1, false, 0, api.ErrOver},
		{least, least, most, true, 0, api.ErrOver},
		{least, least, 1, true, 0, api.ErrOver},
		// quotients just below 2^64, which a rounded one must not wrap
		{1<<33 + 1, 1<<33 - 1, 4, true, 0, api.ErrOver},
		{1<<33 + 1, 1<<33 - 1, 4, false, 0, api.ErrOver},
		{1<<33 + 1, 1 - 1<<33, 4, true, 0, api.ErrOver},
		{1<<33 + 1, 1 - 1<<33, 4, false, 0, api.ErrOver},
		{1, 1, 0, false, 0, api.ErrRange},
		{1, 1, -1, true, 0, api.ErrRange},
		{1, 1, least, true, 0, api.ErrRange},
		{least, least, 0, true, 0, api.ErrRange},
		{least, least, -1, false, 0, api.ErrRange},
	} {
		if v, e := Ratio(c.a, c.b, c.c, c.up); v != c.want || e != c.err {
			t.Errorf("Ratio(%d, %d, %d, %t) is %d, %d; want %d, %d", c.a, c.b, c.c, c.up, v, e, c.want, c.err)
		}
	}
}

// P1.2: the quotient is rounded before its range is checked.
func TestRatioRoundsFirst(t *testing.T) {
	// Quotients half a unit beside 2^63 and -2^63: the products are 2^64 - 1 and 2^64 + 1, and the divisor is 2.
	const a, b = 1<<32 + 1, 1<<32 - 1
	const p, q = 274177, 67280421310721
	for _, c := range []struct {
		a, b, c int64
		up      bool
		want    int64
		err     api.Errno
	}{
		{a, b, 2, false, most, api.OK},
		{a, b, 2, true, 0, api.ErrOver},
		{-a, b, 2, false, least, api.OK},
		{-a, b, 2, true, least + 1, api.OK},
		{p, q, 2, false, 0, api.ErrOver},
		{p, q, 2, true, 0, api.ErrOver},
		{-p, q, 2, true, least, api.OK},
		{-p, q, 2, false, 0, api.ErrOver},
	} {
		if v, e := Ratio(c.a, c.b, c.c, c.up); v != c.want || e != c.err {
			t.Errorf("Ratio(%d, %d, %d, %t) is %d, %d; want %d, %d", c.a, c.b, c.c, c.up, v, e, c.want, c.err)
		}
	}
}

// P1.2 and P1: all triples of edges, and varied ones.
func TestRatioExactly(t *testing.T) {
	for _, a := range edges() {
		for _, b := range edges() {
			for _, c := range edges() {
				checkRatio(t, a, b, c)
			}
		}
	}
	list := varied(60000, 3)
	for i := 0; i+2 < len(list); i += 3 {
		checkRatio(t, list[i], list[i+1], list[i+2])
	}
}

// P1.2: Clamp, also where least is above most.
func TestClamp(t *testing.T) {
	for _, c := range []struct{ x, least, most, want int64 }{
		{3, 1, 5, 3}, {1, 1, 5, 1}, {5, 1, 5, 5}, {0, 1, 5, 1}, {6, 1, 5, 5},
		{3, 5, 1, 1}, {9, 5, 1, 1}, {0, 5, 1, 1},
		{7, 4, 4, 4}, {least, least, most, least}, {most, least, most, most}, {0, most, least, least},
	} {
		if v := Clamp(c.x, c.least, c.most); v != c.want {
			t.Errorf("Clamp(%d, %d, %d) is %d; want %d", c.x, c.least, c.most, v, c.want)
		}
	}
}

// P1.2 and P1: Clamp by its definition, for all triples of edges.
func TestClampExactly(t *testing.T) {
	for _, x := range edges() {
		for _, low := range edges() {
			for _, high := range edges() {
				want := x
				if want < low {
					want = low
				}
				if want > high {
					want = high
				}
				if v := Clamp(x, low, high); v != want {
					t.Errorf("Clamp(%d, %d, %d) is %d; want %d", x, low, high, v, want)
				}
			}
		}
	}
}
