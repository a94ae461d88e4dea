package gap

import (
	"math"
	"math/big"
	"math/rand"
	"slices"
	"testing"

	"noonmark/api"
)

const (
	least = math.MinInt64
	most  = math.MaxInt64
)

// ends returns numbers around every place where an end, a width or a middle may begin not to fit.
func ends() []int64 {
	list := []int64{least, least + 1, least + 2, -7, -2, -1, 0, 1, 2, 8, most - 2, most - 1, most}
	for d := int64(-1); d <= 1; d++ {
		list = append(list, 1<<62+d, -1<<62+d)
	}
	return list
}

// pairs returns all gaps that have their ends in the list, the invalid ones too.
func pairs(list []int64) []Gap {
	var gaps []Gap
	for _, lo := range list {
		for _, hi := range list {
			gaps = append(gaps, Gap{lo, hi})
		}
	}
	return gaps
}

// small returns all gaps with ends from -3 to 3, the invalid ones too.
func small() []Gap {
	return pairs([]int64{-3, -2, -1, 0, 1, 2, 3})
}

// varied returns gaps of every length, of which about half are invalid, the same ones in every run.
func varied(n int, seed int64) []Gap {
	source := rand.New(rand.NewSource(seed))
	list := make([]Gap, n)
	for i := range list {
		list[i] = Gap{int64(source.Uint64()) >> source.Intn(64), int64(source.Uint64()) >> source.Intn(64)}
	}
	return list
}

// exact returns what Shift and Grow promise of a gap, valid or not, whose ends move to lo and hi.
func exact(g Gap, lo, hi *big.Int) (Gap, api.Errno) {
	switch {
	case g.Lo > g.Hi:
		return Gap{}, api.ErrForm
	case !lo.IsInt64() || !hi.IsInt64():
		return Gap{}, api.ErrOver
	case lo.Cmp(hi) > 0:
		return Gap{}, api.ErrEmpty
	}
	return Gap{lo.Int64(), hi.Int64()}, api.OK
}

// sum returns a + b.
func sum(a, b int64) *big.Int {
	return new(big.Int).Add(big.NewInt(a), big.NewInt(b))
}

// difference returns a - b.
func difference(a, b int64) *big.Int {
	return new(big.Int).Sub(big.NewInt(a), big.NewInt(b))
}

// checkOne checks all that is told of g alone.
func checkOne(t *testing.T, g Gap) {
	t.Helper()
	right := g.Lo <= g.Hi
	if v := g.Right(); v != right {
		t.Errorf("%v.Right() is %t", g, v)
	}
	want, width, mid := Gap{}, new(big.Int), new(big.Int)
	if right {
		want, width = g, difference(g.Hi, g.Lo)
		mid.Div(sum(g.Lo, g.Hi), big.NewInt(2)) // rounded down, as 2 is positive
	}
	if v, ok := New(g.Lo, g.Hi); v != want || ok != right {
		t.Errorf("New(%d, %d) is %v, %t; want %v, %t", g.Lo, g.Hi, v, ok, want, right)
	}
	if v := g.Width(); new(big.Int).SetUint64(v).Cmp(width) != 0 {
		t.Errorf("%v.Width() is %d; want %v", g, v, width)
	}
	if v := g.Mid(); big.NewInt(v).Cmp(mid) != 0 {
		t.Errorf("%v.Mid() is %d; want %v", g, v, mid)
	}
}

func checkShift(t *testing.T, g Gap, by int64) {
	t.Helper()
	want, err := exact(g, sum(g.Lo, by), sum(g.Hi, by))
	if v, e := g.Shift(by); v != want || e != err {
		t.Errorf("%v.Shift(%d) is %v, %d; want %v, %d", g, by, v, e, want, err)
	}
}

func checkGrow(t *testing.T, g Gap, low, high int64) {
	t.Helper()
	want, err := exact(g, difference(g.Lo, low), sum(g.Hi, high))
	if v, e := g.Grow(low, high); v != want || e != err {
		t.Errorf("%v.Grow(%d, %d) is %v, %d; want %v, %d", g, low, high, v, e, want, err)
	}
}

// checkMeet checks by single numbers: x is in the intersection if it is in all of the list.
func checkMeet(t *testing.T, list ...Gap) {
	t.Helper()
	got, err := Meet(list...)
	if slices.ContainsFunc(list, invalid) {
		if got != (Gap{}) || err != api.ErrForm {
			t.Errorf("Meet(%v) is %v, %d; want ErrForm", list, got, err)
		}
		return
	}
	some := false
	for x := int64(-4); x <= 4; x++ {
		inAll := true
		for _, g := range list {
			inAll = inAll && g.Lo <= x && x <= g.Hi
		}
		some = some || inAll
		if err == api.OK && inAll != (got.Lo <= x && x <= got.Hi) {
			t.Errorf("Meet(%v) is %v, which is wrong about %d", list, got, x)
		}
	}
	if some != (err == api.OK) || !some && (got != (Gap{}) || err != api.ErrEmpty) {
		t.Errorf("Meet(%v) is %v, %d", list, got, err)
	}
}

// checkHull checks that the ends are ends of the list and that nothing of the list is outside.
func checkHull(t *testing.T, list ...Gap) {
	t.Helper()
	got, err := Hull(list...)
	if slices.ContainsFunc(list, invalid) {
		if got != (Gap{}) || err != api.ErrForm {
			t.Errorf("Hull(%v) is %v, %d; want ErrForm", list, got, err)
		}
		return
	}
	lowest, highest := false, false
	for _, g := range list {
		if g.Lo < got.Lo || g.Hi > got.Hi {
			t.Errorf("Hull(%v) is %v, which leaves out some of %v", list, got, g)
		}
		lowest = lowest || g.Lo == got.Lo
		highest = highest || g.Hi == got.Hi
	}
	if err != api.OK || !lowest || !highest {
		t.Errorf("Hull(%v) is %v, %d", list, got, err)
	}
}

func invalid(g Gap) bool {
	return g.Lo > g.Hi
}

// P3.1: New and Right, with ends in both orders.
func TestNewAndRight(t *testing.T) {
	for _, c := range []struct {
		lo, hi int64
		right  bool
	}{
		{1, 5, true}, {5, 5, true}, {6, 5, false}, {-5, -1, true}, {-1, -5, false}, {0, 0, true}, {0, -1, false},
		{least, most, true}, {most, least, false}, {least, least, true}, {most, most, true}, {most, most - 1, false},
	} {
		want := Gap{}
		if c.right {
			want = Gap{Lo: c.lo, Hi: c.hi}
		}
		if g, ok := New(c.lo, c.hi); g != want || ok != c.right {
			t.Errorf("New(%d, %d) is %v, %t; want %v, %t", c.lo, c.hi, g, ok, want, c.right)
		}
		if v := (Gap{c.lo, c.hi}).Right(); v != c.right {
			t.Errorf("Right of %d to %d is %t", c.lo, c.hi, v)
		}
	}
	if !(Gap{}).Right() {
		t.Error("the zero Gap, which contains 0, is not Right")
	}
}

// P3.1: Has at both ends, beside them, and for invalid gaps.
func TestHas(t *testing.T) {
	for _, c := range []struct {
		g    Gap
		x    int64
		want bool
	}{
		{Gap{1, 5}, 0, false}, {Gap{1, 5}, 1, true}, {Gap{1, 5}, 3, true}, {Gap{1, 5}, 5, true}, {Gap{1, 5}, 6, false},
		{Gap{4, 4}, 3, false}, {Gap{4, 4}, 4, true}, {Gap{4, 4}, 5, false},
		{Gap{}, 0, true}, {Gap{}, 1, false},
		{Gap{least, most}, least, true}, {Gap{least, most}, most, true}, {Gap{least, most}, 0, true},
		{Gap{least, least}, most, false}, {Gap{most, most}, least, false},
		{Gap{5, 1}, 0, false}, {Gap{5, 1}, 1, false}, {Gap{5, 1}, 3, false}, {Gap{5, 1}, 5, false}, {Gap{5, 1}, 6, false},
		{Gap{most, least}, 0, false}, {Gap{most, least}, most, false}, {Gap{most, least}, least, false},
	} {
		if v := c.g.Has(c.x); v != c.want {
			t.Errorf("%v.Has(%d) is %t", c.g, c.x, v)
		}
	}
}

// P3.1: Within asks for two valid gaps.
func TestWithin(t *testing.T) {
	for _, c := range []struct {
		g, o Gap
		want bool
	}{
		{Gap{2, 4}, Gap{1, 5}, true}, {Gap{1, 5}, Gap{1, 5}, true}, {Gap{1, 5}, Gap{2, 4}, false},
		{Gap{0, 4}, Gap{1, 5}, false}, {Gap{2, 6}, Gap{1, 5}, false}, {Gap{0, 6}, Gap{1, 5}, false},
		{Gap{1, 1}, Gap{1, 5}, true}, {Gap{5, 5}, Gap{1, 5}, true}, {Gap{6, 7}, Gap{1, 5}, false},
		{Gap{4, 2}, Gap{1, 5}, false}, {Gap{5, 1}, Gap{5, 1}, false}, {Gap{3, 3}, Gap{5, 1}, false}, {Gap{2, 4}, Gap{5, 1}, false},
		{Gap{least, most}, Gap{least, most}, true}, {Gap{0, 0}, Gap{least, most}, true}, {Gap{most, least}, Gap{least, most}, false},
	} {
		if v := c.g.Within(c.o); v != c.want {
			t.Errorf("%v.Within(%v) is %t", c.g, c.o, v)
		}
	}
}

// P3.1: Has and Within by single numbers, over all small gaps.
func TestHasAndWithinExactly(t *testing.T) {
	for _, g := range small() {
		for x := int64(-4); x <= 4; x++ {
			if v := g.Has(x); v != (g.Lo <= g.Hi && x >= g.Lo && x <= g.Hi) {
				t.Errorf("%v.Has(%d) is %t", g, x, v)
			}
		}
		for _, o := range small() {
			want := !invalid(g) && !invalid(o)
			for x := g.Lo; x <= g.Hi; x++ {
				want = want && o.Lo <= x && x <= o.Hi
			}
			if v := g.Within(o); v != want {
				t.Errorf("%v.Within(%v) is %t", g, o, v)
			}
		}
	}
}

// P3.1: widths up to all 64 bits, and middles that are rounded down.
func TestWidthAndMid(t *testing.T) {
	for _, c := range []struct {
		g     Gap
		width uint64
		mid   int64
	}{
		{Gap{}, 0, 0}, {Gap{4, 4}, 0, 4}, {Gap{4, 9}, 5, 6}, {Gap{1, 5}, 4, 3},
		{Gap{-3, 0}, 3, -2}, {Gap{-3, -1}, 2, -2}, {Gap{-4, -1}, 3, -3}, {Gap{-1, 0}, 1, -1}, {Gap{-1, 2}, 3, 0}, {Gap{0, 1}, 1, 0},
		{Gap{least, most}, math.MaxUint64, -1}, {Gap{least, least}, 0, least}, {Gap{most, most}, 0, most},
		{Gap{least, 0}, 1 << 63, -1 << 62}, {Gap{least, -1}, most, -1<<62 - 1}, {Gap{0, most}, most, 1<<62 - 1},
		{Gap{least, least + 1}, 1, least}, {Gap{most - 1, most}, 1, most - 1}, {Gap{most - 2, most}, 2, most - 1},
		{Gap{5, 1}, 0, 0}, {Gap{-1, -5}, 0, 0}, {Gap{most, least}, 0, 0}, {Gap{8, 7}, 0, 0},
	} {
		if v := c.g.Width(); v != c.width {
			t.Errorf("%v.Width() is %d; want %d", c.g, v, c.width)
		}
		if v := c.g.Mid(); v != c.mid {
			t.Errorf("%v.Mid() is %d; want %d", c.g, v, c.mid)
		}
	}
}

// P3.1 and P1: gaps of all edges, and varied ones.
func TestOneExactly(t *testing.T) {
	for _, g := range slices.Concat(pairs(ends()), small(), varied(20000, 1)) {
		checkOne(t, g)
	}
}

// P3.2: Shift, up to the ends of the range and beyond; ErrForm first.
func TestShift(t *testing.T) {
	for _, c := range []struct {
		g    Gap
		by   int64
		want Gap
		err  api.Errno
	}{
		{Gap{1, 5}, 3, Gap{4, 8}, api.OK},
		{Gap{1, 5}, -3, Gap{-2, 2}, api.OK},
		{Gap{1, 5}, 0, Gap{1, 5}, api.OK},
		{Gap{1, most - 1}, 1, Gap{2, most}, api.OK},
		{Gap{1, most}, 1, Gap{}, api.ErrOver}, // only the upper end leaves the range
		{Gap{least + 1, 5}, -1, Gap{least, 4}, api.OK},
		{Gap{least, 5}, -1, Gap{}, api.ErrOver}, // only the lower end leaves it
		{Gap{least, least}, most, Gap{-1, -1}, api.OK},
		{Gap{most, most}, least, Gap{-1, -1}, api.OK},
		{Gap{most, most}, most, Gap{}, api.ErrOver},
		{Gap{least, most}, 0, Gap{least, most}, api.OK},
		{Gap{5, 1}, 0, Gap{}, api.ErrForm},
		{Gap{5, 1}, 3, Gap{}, api.ErrForm},
		{Gap{most, least}, 1, Gap{}, api.ErrForm},
		{Gap{most, 1}, most, Gap{}, api.ErrForm},
	} {
		if v, e := c.g.Shift(c.by); v != c.want || e != c.err {
			t.Errorf("%v.Shift(%d) is %v, %d; want %v, %d", c.g, c.by, v, e, c.want, c.err)
		}
	}
}

// P3.2: Grow, also inwards; ErrForm, then ErrOver, then ErrEmpty.
func TestGrow(t *testing.T) {
	for _, c := range []struct {
		g         Gap
		low, high int64
		want      Gap
		err       api.Errno
	}{
		{Gap{1, 5}, 2, 3, Gap{-1, 8}, api.OK},
		{Gap{1, 5}, 0, 0, Gap{1, 5}, api.OK},
		{Gap{1, 5}, -1, -2, Gap{2, 3}, api.OK},
		{Gap{1, 5}, -2, -2, Gap{3, 3}, api.OK},
		{Gap{1, 5}, -3, -2, Gap{}, api.ErrEmpty},
		{Gap{1, 5}, -2, -3, Gap{}, api.ErrEmpty},
		{Gap{1, 5}, 0, -5, Gap{}, api.ErrEmpty},
		{Gap{1, 5}, -9, 9, Gap{10, 14}, api.OK},
		{Gap{1, 5}, 9, -9, Gap{-8, -4}, api.OK},
		{Gap{least + 1, most - 1}, 1, 1, Gap{least, most}, api.OK},
		{Gap{least, 0}, 1, 0, Gap{}, api.ErrOver},
		{Gap{0, most}, 0, 1, Gap{}, api.ErrOver},
		{Gap{0, 0}, least, 0, Gap{}, api.ErrOver}, // the lower end is 2^63
		{Gap{-1, 0}, least, 0, Gap{}, api.ErrEmpty},
		{Gap{-1, 0}, least, most, Gap{most, most}, api.OK},
		{Gap{0, 0}, most, least, Gap{}, api.ErrEmpty}, // from least + 1 to least
		{Gap{-1, -1}, most, -most, Gap{least, least}, api.OK},
		{Gap{0, 0}, 0, least, Gap{}, api.ErrEmpty},
		{Gap{0, most}, least, 0, Gap{}, api.ErrOver}, // also empty, but ErrOver is first
		{Gap{least, 0}, 0, least, Gap{least, least}, api.OK},
		{Gap{least, -1}, 0, least, Gap{}, api.ErrOver}, // likewise
		{Gap{5, 1}, 0, 0, Gap{}, api.ErrForm},
		{Gap{5, 1}, 9, 9, Gap{}, api.ErrForm}, // even if its ends would come to be right
		{Gap{5, 1}, -9, -9, Gap{}, api.ErrForm},
		{Gap{most, least}, least, least, Gap{}, api.ErrForm},
	} {
		if v, e := c.g.Grow(c.low, c.high); v != c.want || e != c.err {
			t.Errorf("%v.Grow(%d, %d) is %v, %d; want %v, %d", c.g, c.low, c.high, v, e, c.want, c.err)
		}
	}
}

// P3.2 and P1: all gaps of edges moved by all edges, and varied ones.
func TestMovesExactly(t *testing.T) {
	list := ends()
	for _, g := range slices.Concat(pairs(list), small()) {
		for _, a := range list {
			checkShift(t, g, a)
			for _, b := range list {
				checkGrow(t, g, a, b)
			}
		}
	}
	moves := varied(20000, 2)
	for i, g := range varied(20000, 3) {
		checkShift(t, g, moves[i].Lo)
		checkGrow(t, g, moves[i].Lo, moves[i].Hi)
	}
}

// P3.2: Meet, of none and of many; ErrForm wherever the invalid one is.
func TestMeet(t *testing.T) {
	for _, c := range []struct {
		list []Gap
		want Gap
		err  api.Errno
	}{
		{nil, Gap{least, most}, api.OK},
		{[]Gap{}, Gap{least, most}, api.OK},
		{[]Gap{{1, 5}}, Gap{1, 5}, api.OK},
		{[]Gap{{}}, Gap{}, api.OK},
		{[]Gap{{1, 5}, {4, 9}}, Gap{4, 5}, api.OK},
		{[]Gap{{4, 9}, {1, 5}}, Gap{4, 5}, api.OK},
		{[]Gap{{1, 9}, {3, 4}}, Gap{3, 4}, api.OK},
		{[]Gap{{1, 5}, {5, 9}}, Gap{5, 5}, api.OK},
		{[]Gap{{1, 4}, {5, 9}}, Gap{}, api.ErrEmpty},
		{[]Gap{{5, 9}, {1, 4}}, Gap{}, api.ErrEmpty},
		{[]Gap{{1, 9}, {2, 8}, {-3, 7}, {4, 12}}, Gap{4, 7}, api.OK},
		{[]Gap{{1, 2}, {5, 6}, {1, 6}}, Gap{}, api.ErrEmpty}, // a later one that has both does not mend it
		{[]Gap{{least, most}, {least, most}}, Gap{least, most}, api.OK},
		{[]Gap{{least, 0}, {0, most}}, Gap{}, api.OK},
		{[]Gap{{least, -1}, {0, most}}, Gap{}, api.ErrEmpty},
		{[]Gap{{least, least}, {most, most}}, Gap{}, api.ErrEmpty},
		{[]Gap{{5, 1}}, Gap{}, api.ErrForm},
		{[]Gap{{most, least}}, Gap{}, api.ErrForm},
		{[]Gap{{5, 1}, {1, 5}}, Gap{}, api.ErrForm},
		{[]Gap{{1, 5}, {5, 1}}, Gap{}, api.ErrForm},
		{[]Gap{{1, 2}, {5, 6}, {5, 1}}, Gap{}, api.ErrForm}, // ErrForm first, though the others have nothing in common
	} {
		if v, e := Meet(c.list...); v != c.want || e != c.err {
			t.Errorf("Meet(%v) is %v, %d; want %v, %d", c.list, v, e, c.want, c.err)
		}
	}
}

// P3.2: Hull, of none and of many; ErrForm wherever the invalid one is.
func TestHull(t *testing.T) {
	for _, c := range []struct {
		list []Gap
		want Gap
		err  api.Errno
	}{
		{nil, Gap{}, api.ErrEmpty},
		{[]Gap{}, Gap{}, api.ErrEmpty},
		{[]Gap{{1, 5}}, Gap{1, 5}, api.OK},
		{[]Gap{{-9, -5}}, Gap{-9, -5}, api.OK},
		{[]Gap{{}}, Gap{}, api.OK},
		{[]Gap{{1, 5}, {4, 9}}, Gap{1, 9}, api.OK},
		{[]Gap{{7, 9}, {1, 2}}, Gap{1, 9}, api.OK},
		{[]Gap{{1, 9}, {3, 4}}, Gap{1, 9}, api.OK},
		{[]Gap{{4, 4}, {-6, -6}, {0, 12}, {3, 3}}, Gap{-6, 12}, api.OK},
		{[]Gap{{least, least}, {most, most}}, Gap{least, most}, api.OK},
		{[]Gap{{least, most}}, Gap{least, most}, api.OK},
		{[]Gap{{most, most}}, Gap{most, most}, api.OK},
		{[]Gap{{least, least}}, Gap{least, least}, api.OK},
		{[]Gap{{5, 1}}, Gap{}, api.ErrForm},
		{[]Gap{{most, least}}, Gap{}, api.ErrForm},
		{[]Gap{{5, 1}, {1, 5}}, Gap{}, api.ErrForm},
		{[]Gap{{1, 5}, {5, 1}}, Gap{}, api.ErrForm},
		{[]Gap{{1, 5}, {3, 2}, {0, 9}}, Gap{}, api.ErrForm},
	} {
		if v, e := Hull(c.list...); v != c.want || e != c.err {
			t.Errorf("Hull(%v) is %v, %d; want %v, %d", c.list, v, e, c.want, c.err)
		}
	}
}

// P3.2 and P1: all pairs of small gaps, with a third one of each kind, and long lists.
func TestListsExactly(t *testing.T) {
	for _, a := range small() {
		checkMeet(t, a)
		checkHull(t, a)
		for _, b := range small() {
			checkMeet(t, a, b)
			checkHull(t, a, b)
			for _, c := range []Gap{{-3, 3}, {0, 0}, {-1, 1}, {1, 2}, {2, 1}, {least, most}, {most, least}} {
				checkMeet(t, a, b, c)
				checkHull(t, a, c, b)
			}
		}
	}
	list := varied(5000, 4)
	checkMeet(t, list...)
	checkHull(t, list...)
	rights := slices.DeleteFunc(list, invalid)
	for n := range len(rights) - 20 {
		checkHull(t, rights[n:n+1+n%20]...)
	}
	checkHull(t, rights...)
}

// P3.2: the intersection of many, each of which takes a little off.
func TestMeetLong(t *testing.T) {
	var list []Gap
	for i := range int64(100000) {
		list = append(list, Gap{i, 100000 + (i*7919)%100000})
	}
	if v, e := Meet(list...); v != (Gap{99999, 100000}) || e != api.OK {
		t.Errorf("Meet is %v, %d", v, e)
	}
	if v, e := Meet(append(list, Gap{100001, most})...); v != (Gap{}) || e != api.ErrEmpty {
		t.Errorf("Meet is %v, %d; want ErrEmpty", v, e)
	}
}

// Rule 4: the lists and the gaps are as they were, the memory behind a list's length too.
func TestArgumentsStay(t *testing.T) {
	list := []Gap{{1, 9}, {4, 12}, {2, 3}, {9, 1}}
	was := slices.Clone(list)
	for n := range list {
		Meet(list[:n]...)
		Hull(list[:n]...)
	}
	Meet(list...)
	Hull(list...)
	for _, g := range list {
		g.Shift(1)
		g.Grow(1, 1)
	}
	if !slices.Equal(list, was) {
		t.Errorf("the list became %v", list)
	}
}
