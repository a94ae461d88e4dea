package wide

import (
	"bytes"
	"math"
	"math/big"
	"math/rand"
	"slices"
	"strings"
	"testing"

	"noonmark/api"
)

var (
	least = Int{math.MinInt64, 0}
	most  = Int{math.MaxInt64, math.MaxUint64}
)

// longs returns numbers around every place where a product or a total changes its sign or its length.
func longs() []int64 {
	list := []int64{math.MinInt64, math.MinInt64 + 1, math.MaxInt64 - 1, math.MaxInt64, -2, -1, 0, 1, 2}
	for _, bit := range []int{31, 32, 33, 61, 62} {
		for d := int64(-1); d <= 1; d++ {
			list = append(list, 1<<bit+d, -1<<bit+d)
		}
	}
	return list
}

// edges returns numbers around both ends of the range, and wherever a half carries or begins another digit.
func edges() []Int {
	var list []Int
	for _, hi := range []int64{math.MinInt64, math.MinInt64 + 1, -1 << 62, -2, -1, 0, 1, 2, 1 << 62, math.MaxInt64 - 1, math.MaxInt64} {
		for _, lo := range []uint64{0, 1, 2, 9, 10, 1<<63 - 1, 1 << 63, 1<<63 + 1, math.MaxUint64 - 1, math.MaxUint64} {
			list = append(list, Int{hi, lo})
		}
	}
	return append(list, tens()...)
}

// tens returns the powers of ten in the range and their neighbours, of both signs.
func tens() []Int {
	var list []Int
	for n := range 39 {
		power := new(big.Int).Exp(big.NewInt(10), big.NewInt(int64(n)), nil)
		for d := int64(-1); d <= 1; d++ {
			near := new(big.Int).Add(power, big.NewInt(d))
			for _, x := range []*big.Int{near, new(big.Int).Neg(near)} {
				a, _ := fitted(x)
				list = append(list, a)
			}
		}
	}
	return list
}

// varied returns numbers of every length and sign, the same ones in every run.
func varied(n int, seed int64) []Int {
	source := rand.New(rand.NewSource(seed))
	list := make([]Int, n)
	for i := range list {
		x := exact(Int{int64(source.Uint64()), source.Uint64()})
		list[i], _ = fitted(x.Rsh(x, uint(source.Intn(128))))
	}
	return list
}

// exact returns the number that a is.
func exact(a Int) *big.Int {
	x := new(big.Int).Lsh(big.NewInt(a.Hi), 64)
	return x.Add(x, new(big.Int).SetUint64(a.Lo))
}

// fitted returns what the chapter asks for the exact result x.
func fitted(x *big.Int) (Int, api.Errno) {
	if x.Cmp(exact(least)) < 0 || x.Cmp(exact(most)) > 0 {
		return Int{}, api.ErrOver
	}
	low := new(big.Int).And(x, new(big.Int).SetUint64(math.MaxUint64))
	return Int{new(big.Int).Rsh(x, 64).Int64(), low.Uint64()}, api.OK
}

func checkPair(t *testing.T, a, b Int) {
	t.Helper()
	x, y := exact(a), exact(b)
	want, err := fitted(new(big.Int).Add(x, y))
	if v, e := Add(a, b); v != want || e != err {
		t.Errorf("Add(%v, %v) is %v, %d; want %v, %d", a, b, v, e, want, err)
	}
	want, err = fitted(new(big.Int).Sub(x, y))
	if v, e := Sub(a, b); v != want || e != err {
		t.Errorf("Sub(%v, %v) is %v, %d; want %v, %d", a, b, v, e, want, err)
	}
	if v := Cmp(a, b); v != x.Cmp(y) {
		t.Errorf("Cmp(%v, %v) is %d; want %d", a, b, v, x.Cmp(y))
	}
}

func checkTimes(t *testing.T, a, b int64) {
	t.Helper()
	want, _ := fitted(new(big.Int).Mul(big.NewInt(a), big.NewInt(b)))
	if v := Times(a, b); v != want {
		t.Errorf("Times(%d, %d) is %v; want %v", a, b, v, want)
	}
}

// checkSum checks the total, and that the list and the memory behind it stay as they were.
func checkSum(t *testing.T, list ...int64) {
	t.Helper()
	whole := list[:cap(list)]
	was := slices.Clone(whole)
	total := new(big.Int)
	for _, x := range list {
		total.Add(total, big.NewInt(x))
	}
	want, _ := fitted(total)
	if v := Sum(list...); v != want {
		t.Errorf("Sum of %d numbers is %v; want %v", len(list), v, want)
	}
	if !slices.Equal(whole, was) {
		t.Errorf("Sum of %d numbers changed them", len(list))
	}
}

// checkForms checks all that is told of a alone.
func checkForms(t *testing.T, a Int) {
	t.Helper()
	x := exact(a)
	long, fits := int64(0), x.IsInt64()
	if fits {
		long = x.Int64()
	}
	if v, ok := Long(a); v != long || ok != fits {
		t.Errorf("Long(%v) is %d, %t; want %d, %t", a, v, ok, long, fits)
	}
	if s := Text(a); s != x.String() {
		t.Errorf("Text(%v) is %q; want %q", a, s, x.String())
	}
	if v, ok := Parse(x.String()); v != a || !ok {
		t.Errorf("Parse(%q) is %v, %t; want %v", x.String(), v, ok, a)
	}
	around := new(big.Int).And(x, new(big.Int).Sub(new(big.Int).Lsh(big.NewInt(1), 128), big.NewInt(1)))
	want := around.FillBytes(make([]byte, 16))
	if b := Bytes(a); !bytes.Equal(b, want) {
		t.Errorf("Bytes(%v) is %v; want %v", a, b, want)
	}
	if v, ok := Back(want); v != a || !ok {
		t.Errorf("Back(%v) is %v, %t; want %v", want, v, ok, a)
	}
}

// checkParse checks a text that may be a number's or none.
func checkParse(t *testing.T, s string) {
	t.Helper()
	var want Int
	x, right := new(big.Int).SetString(s, 10)
	if right = right && x.String() == s; right {
		var err api.Errno
		want, err = fitted(x)
		right = err == api.OK
	}
	if v, ok := Parse(s); v != want || ok != right {
		t.Errorf("Parse(%.60q) is %v, %t; want %v, %t", s, v, ok, want, right)
	}
}

// P2.1: an int64 as an Int.
func TestOf(t *testing.T) {
	for _, c := range []struct {
		v    int64
		want Int
	}{
		{0, Int{}}, {1, Int{0, 1}}, {-1, Int{-1, math.MaxUint64}},
		{math.MaxInt64, Int{0, math.MaxInt64}}, {math.MinInt64, Int{-1, 1 << 63}},
	} {
		if a := Of(c.v); a != c.want {
			t.Errorf("Of(%d) is %v; want %v", c.v, a, c.want)
		}
	}
	for _, v := range longs() {
		if a := Of(v); exact(a).Cmp(big.NewInt(v)) != 0 {
			t.Errorf("Of(%d) is %v", v, a)
		}
		if back, ok := Long(Of(v)); back != v || !ok {
			t.Errorf("Long(Of(%d)) is %d, %t", v, back, ok)
		}
	}
}

// P2.1: sums and differences, or the zero Int and ErrOver.
func TestAddAndSub(t *testing.T) {
	one, minusOne := Int{0, 1}, Int{-1, math.MaxUint64}
	for _, c := range []struct {
		name       string
		f          func(a, b Int) (Int, api.Errno)
		a, b, want Int
		err        api.Errno
	}{
		{"Add", Add, Int{0, 2}, Int{0, 3}, Int{0, 5}, api.OK},
		{"Add", Add, Int{0, math.MaxUint64}, one, Int{1, 0}, api.OK},
		{"Add", Add, minusOne, one, Int{}, api.OK},
		{"Add", Add, most, least, minusOne, api.OK},
		{"Add", Add, most, Int{}, most, api.OK},
		{"Add", Add, most, one, Int{}, api.ErrOver},
		{"Add", Add, Int{math.MaxInt64, 0}, Int{0, math.MaxUint64}, most, api.OK},
		{"Add", Add, Int{1 << 62, 1 << 63}, Int{1<<62 - 1, 1 << 63}, Int{}, api.ErrOver}, // the carry alone is too much
		{"Add", Add, least, minusOne, Int{}, api.ErrOver},
		{"Add", Add, least, least, Int{}, api.ErrOver},
		{"Sub", Sub, Int{0, 2}, Int{0, 3}, minusOne, api.OK},
		{"Sub", Sub, Int{1, 0}, one, Int{0, math.MaxUint64}, api.OK},
		{"Sub", Sub, minusOne, least, most, api.OK},
		{"Sub", Sub, Int{}, least, Int{}, api.ErrOver},
		{"Sub", Sub, least, one, Int{}, api.ErrOver},
		{"Sub", Sub, most, minusOne, Int{}, api.ErrOver},
		{"Sub", Sub, Int{-1, 0}, Int{math.MaxInt64, 1}, Int{}, api.ErrOver}, // the borrow alone is too much
		{"Sub", Sub, Int{-1, 1}, Int{math.MaxInt64, 1}, least, api.OK},
		{"Sub", Sub, least, least, Int{}, api.OK},
	} {
		if v, e := c.f(c.a, c.b); v != c.want || e != c.err {
			t.Errorf("%s(%v, %v) is %v, %d; want %v, %d", c.name, c.a, c.b, v, e, c.want, c.err)
		}
	}
}

// P2.1: the order, which is Hi's with its sign and then Lo's without one.
func TestCmp(t *testing.T) {
	order := []Int{least, {math.MinInt64, 1}, {-2, math.MaxUint64}, {-1, 0}, {-1, 1 << 63}, {-1, math.MaxUint64}, {}, {0, 1}, {0, 1<<63 - 1}, {0, 1 << 63}, {0, math.MaxUint64}, {1, 0}, {math.MaxInt64, 0}, most}
	for i, a := range order {
		for j, b := range order {
			want := 0
			if i < j {
				want = -1
			}
			if i > j {
				want = 1
			}
			if v := Cmp(a, b); v != want {
				t.Errorf("Cmp(%v, %v) is %d; want %d", a, b, v, want)
			}
		}
	}
}

// P2.1 and P1: all pairs of edges and varied numbers.
func TestPairsExactly(t *testing.T) {
	list := append(edges(), varied(300, 1)...)
	for _, a := range list {
		for _, b := range list {
			checkPair(t, a, b)
		}
	}
}

// P2.1 and P1: the exact product.
func TestTimes(t *testing.T) {
	for _, c := range []struct {
		a, b int64
		want Int
	}{
		{1 << 62, -4, Int{-1, 0}},
		{3, 5, Int{0, 15}},
		{-3, 5, Of(-15)},
		{-3, -5, Int{0, 15}},
		{0, math.MinInt64, Int{}},
		{math.MinInt64, math.MinInt64, Int{1 << 62, 0}},
		{math.MinInt64, -1, Int{0, 1 << 63}},
		{math.MinInt64, math.MaxInt64, Int{-1 << 62, 1 << 63}},
		{math.MaxInt64, math.MaxInt64, Int{1<<62 - 1, 1}},
	} {
		if v := Times(c.a, c.b); v != c.want {
			t.Errorf("Times(%d, %d) is %v; want %v", c.a, c.b, v, c.want)
		}
	}
	for _, a := range longs() {
		for _, b := range longs() {
			checkTimes(t, a, b)
		}
	}
	list := varied(20000, 2)
	for _, c := range list {
		checkTimes(t, int64(c.Lo), c.Hi)
	}
}

// P2.1 and P1: the exact total, however far beyond 64 bits.
func TestSum(t *testing.T) {
	const low, high = math.MinInt64, math.MaxInt64
	for _, c := range []struct {
		list []int64
		want Int
	}{
		{nil, Int{}}, {[]int64{}, Int{}}, {[]int64{-7}, Of(-7)}, {[]int64{1, 2, 3, -10}, Of(-4)},
		{[]int64{low}, Int{-1, 1 << 63}},
		{[]int64{low, low}, Int{-1, 0}},
		{[]int64{low, low, -1}, Int{-2, math.MaxUint64}},
		{[]int64{high, high, 1}, Int{0, math.MaxUint64}},
		{[]int64{high, high, 2}, Int{1, 0}},
		{[]int64{high, high, low, low}, Of(-2)},
	} {
		if v := Sum(c.list...); v != c.want {
			t.Errorf("Sum(%v) is %v; want %v", c.list, v, c.want)
		}
	}
	for _, a := range longs() {
		for _, b := range longs() {
			checkSum(t, a, b)
			checkSum(t, a, b, b, a, -1)
		}
	}
	spare := []int64{3, -4, high, 9}
	checkSum(t, spare[:2]...)
	checkSum(t, slices.Repeat([]int64{high}, 100000)...)
	checkSum(t, slices.Repeat([]int64{low}, 100000)...)
	checkSum(t, slices.Repeat([]int64{low, high}, 100000)...)
}

// P2.1: an int64, or 0 and false next to the range.
func TestLong(t *testing.T) {
	for _, c := range []struct {
		a    Int
		want int64
		ok   bool
	}{
		{Int{}, 0, true},
		{Of(-5), -5, true},
		{Int{0, math.MaxInt64}, math.MaxInt64, true},
		{Int{0, 1 << 63}, 0, false},
		{Int{-1, 1 << 63}, math.MinInt64, true},
		{Int{-1, 1<<63 - 1}, 0, false},
		{Int{-1, 0}, 0, false},
		{Int{1, 0}, 0, false},
		{Int{1, 7}, 0, false},
		{Int{-2, math.MaxUint64}, 0, false},
		{least, 0, false},
		{most, 0, false},
	} {
		if v, ok := Long(c.a); v != c.want || ok != c.ok {
			t.Errorf("Long(%v) is %d, %t; want %d, %t", c.a, v, ok, c.want, c.ok)
		}
	}
}

// P2.2: the shortest decimal text.
func TestText(t *testing.T) {
	for _, c := range []struct {
		a    Int
		want string
	}{
		{Int{}, "0"},
		{Of(7), "7"},
		{Of(-10), "-10"},
		{Int{1, 0}, "18446744073709551616"},
		{Int{-1, 0}, "-18446744073709551616"},
		{Int{0, 10_000_000_000_000_000_000}, "10000000000000000000"},
		{Int{0, 9_999_999_999_999_999_999}, "9999999999999999999"},
		{Int{0, 10_000_000_000_000_000_007}, "10000000000000000007"},
		{most, "170141183460469231731687303715884105727"},
		{least, "-170141183460469231731687303715884105728"},
	} {
		if s := Text(c.a); s != c.want {
			t.Errorf("Text(%v) is %q; want %q", c.a, s, c.want)
		}
	}
}

// P2.2: only the text of a number is parsed.
func TestParse(t *testing.T) {
	for _, s := range []string{
		"", "-", "--1", "+", "+1", "-0", "00", "01", "-01", "007", "0x1", "1 ", " 1", "1\n", "1\x00", "1_000", "1.0", "1e3", "a", ":", "/", "-:", "1:", "\xff", "٣", "−1",
		"170141183460469231731687303715884105728",
		"-170141183460469231731687303715884105729",
		"999999999999999999999999999999999999999",
		"340282366920938463463374607431768211455",
		"340282366920938463463374607431768211456", // 2^128, whose 128 bits are 0
		"340282366920938463463374607431768211457",
		"-340282366920938463463374607431768211457",
		"3402823669209384634633746074317682114560",
		"0170141183460469231731687303715884105727",
		"00000000000000000000000000000000000000000000000001",
		strings.Repeat("9", 40), strings.Repeat("9", 41), "-" + strings.Repeat("9", 40), strings.Repeat("0", 100000), "1" + strings.Repeat("0", 100000), strings.Repeat("-", 100000),
	} {
		if v, ok := Parse(s); v != (Int{}) || ok {
			t.Errorf("Parse(%.60q) is %v, %t; want false", s, v, ok)
		}
	}
	for _, c := range []struct {
		s    string
		want Int
	}{
		{"0", Int{}}, {"-1", Of(-1)}, {"10", Of(10)}, {"18446744073709551616", Int{1, 0}},
		{"170141183460469231731687303715884105727", most},
		{"-170141183460469231731687303715884105728", least},
	} {
		if v, ok := Parse(c.s); v != c.want || !ok {
			t.Errorf("Parse(%q) is %v, %t; want %v", c.s, v, ok, c.want)
		}
	}
}

// P2.2 and P1: every text of few bytes, and texts one byte beside a number's.
func TestParseExactly(t *testing.T) {
	const alphabet = "-+019:/_ \x00\xff"
	texts := []string{""}
	for range 4 {
		for _, s := range slices.Clone(texts) {
			for i := range len(alphabet) {
				texts = append(texts, s+alphabet[i:i+1])
			}
		}
		slices.Sort(texts)
		texts = slices.Compact(texts)
	}
	for _, s := range texts {
		checkParse(t, s)
	}
	for _, a := range edges() {
		s := exact(a).String()
		for i := range len(s) {
			checkParse(t, s[:i]+s[i+1:])
			for j := range len(alphabet) {
				checkParse(t, s[:i]+alphabet[j:j+1]+s[i:])
				checkParse(t, s[:i]+alphabet[j:j+1]+s[i+1:])
			}
		}
	}
}

// P2.2: numbers beyond the range, also where 128 bits of them are in it.
func TestParseBeyond(t *testing.T) {
	around := new(big.Int).Lsh(big.NewInt(1), 128)
	for _, a := range edges() {
		x := exact(a)
		for k := int64(-30); k <= 30; k++ {
			checkParse(t, new(big.Int).Add(x, new(big.Int).Mul(around, big.NewInt(k))).String())
		}
	}
}

// P2.2: two's complement, most significant byte first.
func TestBytes(t *testing.T) {
	for _, c := range []struct {
		a    Int
		want []byte
	}{
		{Int{}, make([]byte, 16)},
		{Of(-1), bytes.Repeat([]byte{0xff}, 16)},
		{Int{0x0102030405060708, 0x090a0b0c0d0e0f10}, []byte{1, 2, 3, 4, 5, 6, 7, 8, 9, 10, 11, 12, 13, 14, 15, 16}},
		{Of(-2), append(bytes.Repeat([]byte{0xff}, 15), 0xfe)},
		{least, append([]byte{0x80}, make([]byte, 15)...)},
		{most, append([]byte{0x7f}, bytes.Repeat([]byte{0xff}, 15)...)},
	} {
		if b := Bytes(c.a); !bytes.Equal(b, c.want) {
			t.Errorf("Bytes(%v) is %v; want %v", c.a, b, c.want)
		}
		if v, ok := Back(c.want); v != c.a || !ok {
			t.Errorf("Back(%v) is %v, %t; want %v", c.want, v, ok, c.a)
		}
	}
}

// P2.2: any other length than 16 is no number's bytes.
func TestBackOfOtherLengths(t *testing.T) {
	long := bytes.Repeat([]byte{1}, 64)
	for n := range len(long) {
		if v, ok := Back(long[:n]); n != 16 && (v != Int{} || ok) {
			t.Errorf("Back of %d bytes is %v, %t", n, v, ok)
		}
	}
	if v, ok := Back(nil); v != (Int{}) || ok {
		t.Errorf("Back(nil) is %v, %t", v, ok)
	}
}

// Rule 4: the bytes are new memory, and those that were handed in stay as they were.
func TestBytesAreNew(t *testing.T) {
	one := Bytes(Of(1))
	two := Bytes(Of(1))
	whole := one[:cap(one)]
	for i := range whole {
		whole[i] = 0xaa
	}
	if v, ok := Back(two); v != Of(1) || !ok || !bytes.Equal(Bytes(Of(1)), two) {
		t.Errorf("bytes written by their owner changed others: %v", two)
	}
	given := bytes.Repeat([]byte{7}, 20)
	Back(given[:16])
	if !bytes.Equal(given, bytes.Repeat([]byte{7}, 20)) {
		t.Errorf("Back changed its bytes: %v", given)
	}
}

// P2.1, P2.2 and P1: all edges, and varied numbers.
func TestFormsExactly(t *testing.T) {
	for _, a := range append(edges(), varied(20000, 3)...) {
		checkForms(t, a)
	}
}
