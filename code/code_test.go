package code

import (
	"bytes"
	"encoding/binary"
	"math"
	"math/big"
	"math/rand"
	"slices"
	"strings"
	"testing"

	"noonmark/api"
)

const (
	lowest  = math.MinInt64
	highest = math.MaxInt64
	top     = math.MaxUint64
)

// edges returns the numbers around every power of two, and so around every place where an encoding gets longer.
func edges() []uint64 {
	list := []uint64{0, 1, 2, 3, 300, top - 1, top}
	for k := 1; k < 64; k++ {
		for d := uint64(0); d <= 3; d++ {
			list = append(list, 1<<k-2+d)
		}
	}
	return list
}

// varied returns numbers of every length.
func varied(source *rand.Rand, n int) []uint64 {
	list := make([]uint64, n)
	for i := range list {
		list[i] = source.Uint64() >> source.Intn(64)
	}
	return list
}

// signed returns the numbers and their negatives as int64 values.
func signed(list []uint64) []int64 {
	both := []int64{lowest, lowest + 1, highest - 1, highest}
	for _, u := range list {
		both = append(both, int64(u), -int64(u))
	}
	return both
}

// variedTexts returns texts of any bytes.
func variedTexts(source *rand.Rand, n int) []string {
	list := make([]string, n)
	for i := range list {
		b := make([]byte, source.Intn(200)>>source.Intn(8))
		source.Read(b)
		list[i] = string(b)
	}
	return list
}

// filled returns n times the same byte, and then the others.
func filled(n int, same byte, others ...byte) []byte {
	return append(bytes.Repeat([]byte{same}, n), others...)
}

// joined returns the parts one after the other.
func joined(parts ...[]byte) []byte {
	return slices.Concat(parts...)
}

// exactUint returns the groups of seven bits of u, as many as it needs and at least one, the least significant first.
func exactUint(u uint64) []byte {
	rest, base := new(big.Int).SetUint64(u), big.NewInt(128)
	var b []byte
	for len(b) == 0 || rest.Sign() > 0 {
		group := new(big.Int)
		rest.DivMod(rest, base, group)
		b = append(b, byte(group.Int64()))
	}
	for i := range b[:len(b)-1] {
		b[i] += 128
	}
	return b
}

// exactTurn returns the place of v in 0, -1, 1, -2, 2 and so on.
func exactTurn(v int64) uint64 {
	place := new(big.Int).Mul(big.NewInt(2), big.NewInt(v))
	if v < 0 {
		place.Not(place) // -place - 1
	}
	return place.Uint64()
}

// exactRead returns the unsigned integer at the start of b and the number of its bytes, or the error that the chapter asks for.
func exactRead(b []byte) (uint64, int, api.Errno) {
	value := new(big.Int)
	for i := 0; ; i++ {
		if i >= len(b) {
			return 0, 0, api.ErrEnd
		}
		if b[i] == 0 && i != 0 {
			return 0, 0, api.ErrForm
		}
		if b[i] > 1 && i+1 == 10 {
			return 0, 0, api.ErrForm
		}
		group := big.NewInt(int64(b[i] & 127))
		value.Add(value, group.Lsh(group, uint(7*i)))
		if b[i] < 128 {
			return value.Uint64(), i + 1, api.OK
		}
	}
}

// model is a reader as the chapter describes it.
type model struct {
	rest []byte
	err  api.Errno
}

// number reads an unsigned integer that is at most the given one, if that is not nil.
func (m *model) number(most *big.Int) uint64 {
	if m.err != api.OK {
		return 0
	}
	u, size, err := exactRead(m.rest)
	if err == api.OK && most != nil && new(big.Int).SetUint64(u).Cmp(most) > 0 {
		err = api.ErrLong
	}
	if err != api.OK {
		m.err = err
		return 0
	}
	m.rest = m.rest[size:]
	return u
}

func (m *model) signed() int64 {
	u := m.number(nil)
	if u%2 == 1 {
		return -int64(u/2) - 1
	}
	return int64(u / 2)
}

func (m *model) count(most int) int {
	limit := big.NewInt(int64(most))
	if most < 0 {
		limit = new(big.Int)
	}
	return int(m.number(limit))
}

func (m *model) text(most int) string {
	if m.err != api.OK {
		return ""
	}
	ahead := model{rest: m.rest}
	n := ahead.count(most)
	switch {
	case ahead.err != api.OK:
		m.err = ahead.err
		return ""
	case n > len(ahead.rest):
		m.err = api.ErrEnd
		return ""
	}
	m.rest = ahead.rest[n:]
	return string(ahead.rest[:n])
}

func (m *model) end() api.Errno {
	if m.err == api.OK && len(m.rest) != 0 {
		m.err = api.ErrForm
	}
	return m.err
}

// held fails the test unless the reader has as many bytes left as given, and the given error.
func held(t *testing.T, what string, r *Reader, left int, err api.Errno) {
	t.Helper()
	if r.Left() != left || r.Err() != err {
		t.Errorf("%s: %d bytes are left, with the error %d; want %d, %d", what, r.Left(), r.Err(), left, err)
	}
}

// P6.1: unsigned integers, by hand.
func TestUints(t *testing.T) {
	for _, c := range []struct {
		list []uint64
		want []byte
	}{
		{nil, nil}, {[]uint64{}, nil}, {[]uint64{0}, []byte{0}}, {[]uint64{1}, []byte{1}},
		{[]uint64{300, 0}, []byte{172, 2, 0}}, {[]uint64{0, 300}, []byte{0, 172, 2}}, {[]uint64{0, 0, 0}, []byte{0, 0, 0}},
		{[]uint64{127}, []byte{127}}, {[]uint64{128}, []byte{128, 1}}, {[]uint64{129}, []byte{129, 1}}, {[]uint64{255}, []byte{255, 1}}, {[]uint64{256}, []byte{128, 2}},
		{[]uint64{16383}, []byte{255, 127}}, {[]uint64{16384}, []byte{128, 128, 1}},
		{[]uint64{1<<56 - 1}, filled(7, 255, 127)}, {[]uint64{1 << 56}, filled(8, 128, 1)},
		{[]uint64{1<<63 - 1}, filled(8, 255, 127)}, {[]uint64{1 << 63}, filled(9, 128, 1)},
		{[]uint64{top}, filled(9, 255, 1)}, {[]uint64{top - 1, 5}, joined([]byte{254}, filled(8, 255, 1), []byte{5})},
	} {
		if b := Uints(c.list...); !bytes.Equal(b, c.want) {
			t.Errorf("Uints(%d) is %d; want %d", c.list, b, c.want)
		}
	}
}

// P6.1: signed integers, by hand.
func TestInts(t *testing.T) {
	for _, c := range []struct {
		list []int64
		want []byte
	}{
		{nil, nil}, {[]int64{}, nil}, {[]int64{0}, []byte{0}}, {[]int64{-3}, []byte{5}},
		{[]int64{0, -1, 1, -2, 2}, []byte{0, 1, 2, 3, 4}}, {[]int64{63, -64, 64, -65}, []byte{126, 127, 128, 1, 129, 1}},
		{[]int64{150}, []byte{172, 2}}, {[]int64{highest}, joined([]byte{254}, filled(8, 255, 1))}, {[]int64{lowest}, filled(9, 255, 1)},
		{[]int64{lowest, 1}, filled(9, 255, 1, 2)},
	} {
		if b := Ints(c.list...); !bytes.Equal(b, c.want) {
			t.Errorf("Ints(%d) is %d; want %d", c.list, b, c.want)
		}
	}
}

// P6.1: strings, by hand; any bytes, and lengths whose encoding has one, two and three bytes.
func TestTexts(t *testing.T) {
	for _, c := range []struct {
		list []string
		want []byte
	}{
		{nil, nil}, {[]string{}, nil}, {[]string{""}, []byte{0}}, {[]string{"", ""}, []byte{0, 0}},
		{[]string{"ab"}, []byte{2, 97, 98}}, {[]string{"a", "", "bc"}, []byte{1, 97, 0, 2, 98, 99}},
		{[]string{"\x00\xff\x80"}, []byte{3, 0, 255, 128}}, {[]string{"é"}, []byte{2, 195, 169}},
		{[]string{strings.Repeat("x", 127)}, joined([]byte{127}, filled(127, 'x'))},
		{[]string{strings.Repeat("x", 128)}, joined([]byte{128, 1}, filled(128, 'x'))},
		{[]string{strings.Repeat("x", 300), "y"}, joined([]byte{172, 2}, filled(300, 'x', 1, 'y'))},
		{[]string{strings.Repeat("x", 16384)}, joined([]byte{128, 128, 1}, filled(16384, 'x'))},
	} {
		if b := Texts(c.list...); !bytes.Equal(b, c.want) {
			t.Errorf("Texts(%q) is %d; want %d", c.list, b, c.want)
		}
	}
}

// P6.1 and P1: the definition, at all edges and for varied numbers, one by one and together.
func TestEncodingsExactly(t *testing.T) {
	source := rand.New(rand.NewSource(1))
	numbers := append(edges(), varied(source, 2000)...)
	var together []byte
	for _, u := range numbers {
		want := exactUint(u)
		if b := Uints(u); !bytes.Equal(b, want) || !bytes.Equal(b, binary.AppendUvarint(nil, u)) {
			t.Errorf("Uints(%d) is %d; want %d", u, b, want)
		}
		together = append(together, want...)
	}
	if !bytes.Equal(Uints(numbers...), together) {
		t.Error("Uints of all numbers is not what it is of each")
	}
	together = nil
	for _, v := range signed(numbers) {
		want := exactUint(exactTurn(v))
		if b := Ints(v); !bytes.Equal(b, want) || !bytes.Equal(b, binary.AppendVarint(nil, v)) {
			t.Errorf("Ints(%d) is %d; want %d", v, b, want)
		}
		together = append(together, want...)
	}
	if !bytes.Equal(Ints(signed(numbers)...), together) {
		t.Error("Ints of all numbers is not what it is of each")
	}
	together = nil
	texts := variedTexts(source, 500)
	for _, s := range texts {
		want := joined(exactUint(uint64(len(s))), []byte(s))
		if b := Texts(s); !bytes.Equal(b, want) {
			t.Errorf("Texts(%q) is %d; want %d", s, b, want)
		}
		together = append(together, want...)
	}
	if !bytes.Equal(Texts(texts...), together) {
		t.Error("Texts of all texts is not what it is of each")
	}
}

// P6.1: zigzag values, by hand.
func TestTurn(t *testing.T) {
	for v, u := range map[int64]uint64{
		0: 0, -1: 1, 1: 2, -2: 3, 2: 4, -3: 5, 63: 126, -64: 127, 64: 128,
		1<<31 - 1: 1<<32 - 2, -1 << 31: 1<<32 - 1, 1 << 31: 1 << 32, 1 << 62: 1 << 63, -1 << 62: 1<<63 - 1, 1<<62 - 1: 1<<63 - 2, -1<<62 - 1: 1<<63 + 1,
		highest: top - 1, lowest + 1: top - 2, lowest: top,
	} {
		if x := Turn(v); x != u {
			t.Errorf("Turn(%d) is %d; want %d", v, x, u)
		}
		if x := Unturn(u); x != v {
			t.Errorf("Unturn(%d) is %d; want %d", u, x, v)
		}
	}
}

// P6.1 and P1: the definition, at all edges and for varied numbers, and Unturn undoes Turn.
func TestTurnExactly(t *testing.T) {
	numbers := append(edges(), varied(rand.New(rand.NewSource(2)), 5000)...)
	for _, v := range signed(numbers) {
		u := Turn(v)
		if u != exactTurn(v) {
			t.Errorf("Turn(%d) is %d; want %d", v, u, exactTurn(v))
		}
		if x := Unturn(u); x != v {
			t.Errorf("Unturn(%d) is %d; want %d", u, x, v)
		}
	}
	for _, u := range numbers {
		if x := Turn(Unturn(u)); x != u {
			t.Errorf("Turn(Unturn(%d)) is %d", u, x)
		}
	}
}

// P6.2 and P6.3: one unsigned integer, by hand: what is read, what is left and which error comes first.
func TestUint(t *testing.T) {
	for _, c := range []struct {
		b    []byte
		want uint64
		left int
		err  api.Errno
	}{
		{[]byte{0}, 0, 0, api.OK}, {[]byte{0, 0}, 0, 1, api.OK}, {[]byte{127}, 127, 0, api.OK}, {[]byte{172, 2, 0}, 300, 1, api.OK},
		{[]byte{128, 1}, 128, 0, api.OK}, {[]byte{255, 127, 255}, 16383, 1, api.OK}, {[]byte{128, 128, 1}, 16384, 0, api.OK},
		{filled(8, 128, 1), 1 << 56, 0, api.OK}, {filled(8, 255, 127), highest, 0, api.OK},
		{filled(9, 128, 1), 1 << 63, 0, api.OK}, {filled(9, 255, 1), top, 0, api.OK}, {filled(9, 255, 1, 0, 255), top, 2, api.OK},
		// no further byte
		{nil, 0, 0, api.ErrEnd}, {[]byte{}, 0, 0, api.ErrEnd}, {[]byte{128}, 0, 1, api.ErrEnd}, {[]byte{255, 255}, 0, 2, api.ErrEnd},
		{filled(8, 128), 0, 8, api.ErrEnd}, {filled(9, 128), 0, 9, api.ErrEnd}, {filled(9, 255), 0, 9, api.ErrEnd},
		// a 0 that is not the first byte
		{[]byte{128, 0}, 0, 2, api.ErrForm}, {[]byte{255, 0, 1}, 0, 3, api.ErrForm}, {[]byte{128, 128, 0}, 0, 3, api.ErrForm},
		{filled(8, 255, 0), 0, 9, api.ErrForm}, {filled(9, 128, 0), 0, 10, api.ErrForm},
		// a tenth byte greater than 1, finished or not
		{filled(9, 128, 2), 0, 10, api.ErrForm}, {filled(9, 255, 2, 7), 0, 11, api.ErrForm}, {filled(9, 128, 3), 0, 10, api.ErrForm}, {filled(9, 255, 127), 0, 10, api.ErrForm},
		{filled(9, 128, 128), 0, 10, api.ErrForm}, {filled(9, 128, 129), 0, 10, api.ErrForm}, {filled(9, 128, 129, 1), 0, 11, api.ErrForm},
		{filled(10, 255), 0, 10, api.ErrForm}, {filled(10, 128, 0), 0, 11, api.ErrForm}, {filled(40, 255, 1), 0, 41, api.ErrForm},
	} {
		r := New(c.b)
		if u := r.Uint(); u != c.want {
			t.Errorf("Uint of %d is %d; want %d", c.b, u, c.want)
		}
		held(t, "Uint", r, c.left, c.err)

		r = New(c.b)
		if v, want := r.Int(), Unturn(c.want); v != want {
			t.Errorf("Int of %d is %d; want %d", c.b, v, want)
		}
		held(t, "Int", r, c.left, c.err)
	}
}

// P6.2: signed integers, by hand.
func TestInt(t *testing.T) {
	r := New(joined([]byte{0, 1, 2, 3, 4, 5, 172, 2, 171, 2, 254}, filled(8, 255, 1), filled(9, 255, 1)))
	for _, want := range []int64{0, -1, 1, -2, 2, -3, 150, -150, highest, lowest} {
		if v := r.Int(); v != want {
			t.Errorf("Int is %d; want %d", v, want)
		}
	}
	held(t, "after all", r, 0, api.OK)
}

// P6.2 and P6.3: numbers that may be at most so great, by hand.
func TestCount(t *testing.T) {
	for _, c := range []struct {
		b    []byte
		most int
		want int
		left int
		err  api.Errno
	}{
		{[]byte{0}, 0, 0, 0, api.OK}, {[]byte{5}, 5, 5, 0, api.OK}, {[]byte{5, 9}, 6, 5, 1, api.OK}, {[]byte{172, 2}, 300, 300, 0, api.OK},
		{[]byte{6}, 5, 0, 1, api.ErrLong}, {[]byte{1}, 0, 0, 1, api.ErrLong}, {[]byte{172, 2, 7}, 299, 0, 3, api.ErrLong},
		{[]byte{0}, -1, 0, 0, api.OK}, {[]byte{1}, -1, 0, 1, api.ErrLong}, {[]byte{0}, math.MinInt, 0, 0, api.OK}, {[]byte{1}, math.MinInt, 0, 1, api.ErrLong}, {filled(9, 255, 1), -1, 0, 10, api.ErrLong},
		{filled(8, 255, 127), math.MaxInt, math.MaxInt, 0, api.OK}, {filled(8, 255, 127), math.MaxInt - 1, 0, 9, api.ErrLong},
		{filled(9, 128, 1), math.MaxInt, 0, 10, api.ErrLong}, {filled(9, 255, 1), math.MaxInt, 0, 10, api.ErrLong},
		{nil, 5, 0, 0, api.ErrEnd}, {[]byte{128}, 0, 0, 1, api.ErrEnd}, {[]byte{255}, -1, 0, 1, api.ErrEnd}, {[]byte{255, 0}, 0, 0, 2, api.ErrForm}, {filled(9, 255, 2), 5, 0, 10, api.ErrForm},
	} {
		r := New(c.b)
		if n := r.Count(c.most); n != c.want {
			t.Errorf("Count(%d) of %d is %d; want %d", c.most, c.b, n, c.want)
		}
		held(t, "Count", r, c.left, c.err)
	}
}

// P6.2 and P6.3: strings, by hand; a string that ends with an error keeps its length unread.
func TestText(t *testing.T) {
	long := strings.Repeat("x", 300)
	for _, c := range []struct {
		b    []byte
		most int
		want string
		left int
		err  api.Errno
	}{
		{[]byte{0}, 9, "", 0, api.OK}, {[]byte{0, 97}, 9, "", 1, api.OK}, {[]byte{2, 97, 98}, 9, "ab", 0, api.OK}, {[]byte{2, 97, 98, 99}, 2, "ab", 1, api.OK},
		{[]byte{3, 0, 255, 128}, 3, "\x00\xff\x80", 0, api.OK}, {joined([]byte{172, 2}, []byte(long)), 300, long, 0, api.OK}, {[]byte{2, 97, 98}, math.MaxInt, "ab", 0, api.OK},
		// fewer bytes than the length says
		{[]byte{3, 97, 98}, 9, "", 3, api.ErrEnd}, {[]byte{3, 97, 98}, 3, "", 3, api.ErrEnd}, {[]byte{1}, 9, "", 1, api.ErrEnd}, {joined([]byte{172, 2}, []byte(long[1:])), 300, "", 301, api.ErrEnd},
		{filled(8, 255, 127, 97), math.MaxInt, "", 10, api.ErrEnd},
		// too long, whether the bytes are there or not
		{[]byte{3, 97, 98, 99}, 2, "", 4, api.ErrLong}, {[]byte{3, 97}, 2, "", 2, api.ErrLong}, {filled(9, 255, 1, 97), math.MaxInt, "", 11, api.ErrLong}, {filled(9, 128, 1), math.MaxInt, "", 10, api.ErrLong},
		// a negative most counts as 0
		{[]byte{0, 97}, -1, "", 1, api.OK}, {[]byte{1, 97}, -1, "", 2, api.ErrLong}, {[]byte{0}, math.MinInt, "", 0, api.OK}, {[]byte{1, 97}, math.MinInt, "", 2, api.ErrLong}, {[]byte{1, 97}, 0, "", 2, api.ErrLong},
		// a length that is none
		{nil, 9, "", 0, api.ErrEnd}, {[]byte{}, -1, "", 0, api.ErrEnd}, {[]byte{131}, 9, "", 1, api.ErrEnd}, {[]byte{131, 0, 97, 98, 99}, 9, "", 5, api.ErrForm}, {filled(9, 255, 2, 97), 9, "", 11, api.ErrForm},
	} {
		r := New(c.b)
		if s := r.Text(c.most); s != c.want {
			t.Errorf("Text(%d) of %d is %q; want %q", c.most, c.b, s, c.want)
		}
		held(t, "Text", r, c.left, c.err)
	}
}

// P6.2 and P6.3: after any error, reads of every kind return zero values, consume nothing and leave the error as it is.
func TestErrorStays(t *testing.T) {
	valid := []byte{1, 97, 2, 3}
	for _, c := range []struct {
		what string
		b    []byte
		fail func(r *Reader)
		err  api.Errno
	}{
		{"a missing byte", nil, func(r *Reader) { r.Uint() }, api.ErrEnd},
		{"an unfinished number", []byte{128}, func(r *Reader) { r.Int() }, api.ErrEnd},
		{"a short text", []byte{5, 97, 98}, func(r *Reader) { r.Text(9) }, api.ErrEnd},
		{"an invalid number", joined([]byte{128, 0}, valid), func(r *Reader) { r.Uint() }, api.ErrForm},
		{"a count that is too great", valid, func(r *Reader) { r.Count(0) }, api.ErrLong},
		{"a text that is too long", valid, func(r *Reader) { r.Text(0) }, api.ErrLong},
		{"bytes that are left", valid, func(r *Reader) { r.End() }, api.ErrForm},
	} {
		r := New(c.b)
		c.fail(r)
		held(t, c.what, r, len(c.b), c.err)
		for range 2 {
			if u := r.Uint(); u != 0 {
				t.Errorf("%s: Uint is %d", c.what, u)
			}
			if v := r.Int(); v != 0 {
				t.Errorf("%s: Int is %d", c.what, v)
			}
			if n := r.Count(9); n != 0 {
				t.Errorf("%s: Count is %d", c.what, n)
			}
			if s := r.Text(9); s != "" {
				t.Errorf("%s: Text is %q", c.what, s)
			}
			if err := r.End(); err != c.err {
				t.Errorf("%s: End is %d; want %d", c.what, err, c.err)
			}
			held(t, c.what, r, len(c.b), c.err)
		}
	}
}

// P6.3: the bytes that are left, and the end, with nothing and with something left.
func TestLeftAndEnd(t *testing.T) {
	for _, b := range [][]byte{nil, {}} {
		r := New(b)
		held(t, "nothing", r, 0, api.OK)
		if err := r.End(); err != api.OK {
			t.Errorf("End of nothing is %d", err)
		}
		held(t, "nothing, ended", r, 0, api.OK)
		if r.Uint(); r.Err() != api.ErrEnd || r.End() != api.ErrEnd {
			t.Errorf("a read behind the end leaves %d", r.Err())
		}
	}

	r := New([]byte{172, 2, 5, 2, 97, 98, 7})
	held(t, "at first", r, 7, api.OK)
	r.Uint()
	held(t, "after a number", r, 5, api.OK)
	r.Int()
	held(t, "after a signed number", r, 4, api.OK)
	r.Text(2)
	held(t, "after a text", r, 1, api.OK)
	r.Count(7)
	held(t, "after a count", r, 0, api.OK)
	if err := r.End(); err != api.OK {
		t.Errorf("End after all is %d", err)
	}

	r = New([]byte{1, 2})
	r.Uint()
	if err := r.End(); err != api.ErrForm {
		t.Errorf("End before the last byte is %d", err)
	}
	held(t, "ended too early", r, 1, api.ErrForm)
}

// P6.2 and P6.1: what is encoded is read back, in any order of kinds, and nothing is left.
func TestBackAndForth(t *testing.T) {
	source := rand.New(rand.NewSource(3))
	numbers := append(edges(), varied(source, 1000)...)
	r := New(Uints(numbers...))
	for _, want := range numbers {
		if u := r.Uint(); u != want {
			t.Errorf("Uint is %d; want %d", u, want)
		}
	}
	if err := r.End(); err != api.OK {
		t.Errorf("End after Uints is %d", err)
	}
	r = New(Ints(signed(numbers)...))
	for _, want := range signed(numbers) {
		if v := r.Int(); v != want {
			t.Errorf("Int is %d; want %d", v, want)
		}
	}
	if err := r.End(); err != api.OK {
		t.Errorf("End after Ints is %d", err)
	}
	texts := variedTexts(source, 300)
	r = New(Texts(texts...))
	for _, want := range texts {
		if s := r.Text(len(want)); s != want {
			t.Errorf("Text is %q; want %q", s, want)
		}
	}
	if err := r.End(); err != api.OK {
		t.Errorf("End after Texts is %d", err)
	}
	r = New(joined(Texts("key"), Ints(-7), Uints(300), Texts(""), Uints(2)))
	if s, v, n, e, u := r.Text(3), r.Int(), r.Count(300), r.Text(0), r.Uint(); s != "key" || v != -7 || n != 300 || e != "" || u != 2 || r.End() != api.OK {
		t.Errorf("mixed: %q, %d, %d, %q, %d, %d", s, v, n, e, u, r.End())
	}
}

// tellingBytes returns byte strings with an error at every place that can have one: all of up to two bytes, all of up to five telling bytes, and those with all bytes around the tenth place.
func tellingBytes() [][]byte {
	list := [][]byte{nil}
	telling := []byte{0, 1, 2, 127, 128, 129, 255}
	for first, n := 0, 0; n < 5; n++ {
		last := len(list)
		for _, b := range list[first:last] {
			for _, next := range telling {
				list = append(list, joined(b, []byte{next}))
			}
		}
		first = last
	}
	for a := range 256 {
		list = append(list, []byte{byte(a)})
		for b := range 256 {
			list = append(list, []byte{byte(a), byte(b)}, filled(8, 128, byte(a), byte(b)), filled(8, 255, byte(a), byte(b)))
		}
		for n := 3; n <= 12; n++ {
			list = append(list, filled(n, 128, byte(a)), filled(n, 255, byte(a), 3))
		}
	}
	return list
}

// P6.2, P6.3 and P1: every kind of read of all telling bytes, against the definition; what is accepted is the one encoding of its value.
func TestReadsExactly(t *testing.T) {
	for _, b := range tellingBytes() {
		r, m := New(b), &model{rest: b}
		u, want := r.Uint(), m.number(nil)
		if u != want || r.Left() != len(m.rest) || r.Err() != m.err {
			t.Fatalf("Uint of %d is %d, with %d left and the error %d; want %d, %d, %d", b, u, r.Left(), r.Err(), want, len(m.rest), m.err)
		}
		if r.Err() == api.OK && !bytes.Equal(Uints(u), b[:len(b)-r.Left()]) {
			t.Fatalf("Uint of %d is %d, whose encoding is %d", b, u, Uints(u))
		}
		for _, most := range []int{-1, 0, 1, 2, 127, 128, 16384, math.MaxInt} {
			r, m = New(b), &model{rest: b}
			if n, want := r.Count(most), m.count(most); n != want || r.Left() != len(m.rest) || r.Err() != m.err {
				t.Fatalf("Count(%d) of %d is %d, with %d left and the error %d; want %d, %d, %d", most, b, n, r.Left(), r.Err(), want, len(m.rest), m.err)
			}
			r, m = New(b), &model{rest: b}
			if s, want := r.Text(most), m.text(most); s != want || r.Left() != len(m.rest) || r.Err() != m.err {
				t.Fatalf("Text(%d) of %d is %q, with %d left and the error %d; want %q, %d, %d", most, b, s, r.Left(), r.Err(), want, len(m.rest), m.err)
			}
		}
	}
}

// variedBytes returns encodings of several kinds, one after the other, some of them cut off or damaged.
func variedBytes(source *rand.Rand) []byte {
	var b []byte
	for range source.Intn(8) {
		switch source.Intn(4) {
		case 0:
			b = append(b, Uints(varied(source, 2)...)...)
		case 1:
			b = append(b, Ints(signed(varied(source, 1))...)...)
		case 2:
			b = append(b, Texts(variedTexts(source, 2)...)...)
		case 3:
			b = append(b, Uints(uint64(source.Intn(9)))...)
		}
	}
	if len(b) > 0 && source.Intn(2) == 0 {
		b[source.Intn(len(b))] = []byte{0, 1, 2, 128, 255}[source.Intn(5)]
	}
	return b[:len(b)-source.Intn(len(b)+1)/4]
}

// P6.2, P6.3 and P1: reads of all kinds in any order, beyond any error, against the definition.
func TestAnyReads(t *testing.T) {
	source := rand.New(rand.NewSource(4))
	for range 20000 {
		b := variedBytes(source)
		r, m := New(b), &model{rest: b}
		for range 12 {
			most := []int{source.Intn(9), source.Intn(300), -source.Intn(3), math.MaxInt, math.MinInt}[source.Intn(5)]
			kind := source.Intn(13)
			var same bool
			switch {
			case kind < 3:
				same = r.Uint() == m.number(nil)
			case kind < 6:
				same = r.Int() == m.signed()
			case kind < 9:
				same = r.Text(most) == m.text(most)
			case kind < 12:
				same = r.Count(most) == m.count(most)
			default:
				same = r.End() == m.end()
			}
			if !same || r.Left() != len(m.rest) || r.Err() != m.err {
				t.Fatalf("a read of kind %d, at most %d, of %d: %d left and the error %d; want %d, %d", kind, most, b, r.Left(), r.Err(), len(m.rest), m.err)
			}
		}
	}
}

// P6.3: a reader neither changes its bytes nor follows their changes, and what it returned stays.
func TestBytesAreNotKept(t *testing.T) {
	spare := []byte{2, 97, 98, 172, 2, 1, 99, 7, 8, 9}
	b := spare[:7]
	r := New(b)
	s := r.Text(9)
	was := slices.Clone(spare)
	for i := range spare {
		spare[i] = 255
	}
	if u, next := r.Uint(), r.Text(9); u != 300 || next != "c" || s != "ab" || r.End() != api.OK {
		t.Errorf("after a change of the bytes: %q, %d, %q, %d", s, u, next, r.End())
	}
	copy(spare, was)
	r = New(b)
	for range 5 { // beyond the last byte
		r.Text(9)
		r.Count(1000)
	}
	if !slices.Equal(spare, was) {
		t.Errorf("the reader made %d of %d", spare, was)
	}
}

// P6.3: two readers of the same bytes do not disturb each other.
func TestReadersAreApart(t *testing.T) {
	b := []byte{1, 2, 3}
	one, other := New(b), New(b)
	one.Uint()
	one.End()
	held(t, "the one", one, 2, api.ErrForm)
	held(t, "the other", other, 3, api.OK)
	if u := other.Uint(); u != 1 {
		t.Errorf("the other reads %d", u)
	}
}

// P6.3: results are new memory: writing into one, or behind its length, changes no other, nor what was given.
func TestResultsAreNew(t *testing.T) {
	numbers, longs, texts := []uint64{1, 300}, []int64{1, -300}, []string{"ab", "c"}
	for _, f := range []struct {
		what   string
		encode func() []byte
	}{
		{"Uints", func() []byte { return Uints(numbers...) }},
		{"Ints", func() []byte { return Ints(longs...) }},
		{"Texts", func() []byte { return Texts(texts...) }},
	} {
		one, other := f.encode(), f.encode()
		want := slices.Clone(other)
		one = one[:cap(one)]
		for i := range one {
			one[i] = 255
		}
		if again := f.encode(); !bytes.Equal(other, want) || !bytes.Equal(again, want) {
			t.Errorf("%s: %d and %d after a change; want %d", f.what, other, again, want)
		}
	}
	if !slices.Equal(numbers, []uint64{1, 300}) || !slices.Equal(longs, []int64{1, -300}) || !slices.Equal(texts, []string{"ab", "c"}) {
		t.Errorf("changed: %d, %d, %q", numbers, longs, texts)
	}
}
