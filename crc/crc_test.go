package crc

import (
	"bytes"
	"hash/crc32"
	"math/big"
	"math/bits"
	"math/rand"
	"slices"
	"testing"

	"noonmark/api"
)

// exactSum returns the checksum as the chapter describes it, with a register that is a list of bits, the lowest one first.
func exactSum(b []byte) uint32 {
	register := slices.Repeat([]int{1}, 32)
	for _, v := range b {
		for i := range 8 {
			register[i] ^= int(v >> i & 1)
		}
		for range 8 {
			out := register[0]
			register = append(slices.Clone(register[1:]), 0)
			for i := range 32 {
				register[i] ^= out * int(uint32(0xEDB88320)>>i&1)
			}
		}
	}
	var sum uint32
	for i, bit := range register {
		sum += uint32(1-bit) << i
	}
	return sum
}

// exactSeal returns b and its checksum, digit by digit to the base 256.
func exactSeal(b []byte) []byte {
	sealed := slices.Clone(b)
	rest, base := big.NewInt(int64(exactSum(b))), big.NewInt(256)
	for range 4 {
		digit := new(big.Int)
		rest.DivMod(rest, base, digit)
		sealed = append(sealed, byte(digit.Int64()))
	}
	return sealed
}

// varied returns any bytes, fewer than most.
func varied(source *rand.Rand, most int) []byte {
	b := make([]byte, source.Intn(most))
	source.Read(b)
	return b
}

// cut returns parts that b is the concatenation of, empty ones and nil ones among them.
func cut(source *rand.Rand, b []byte) [][]byte {
	parts := [][]byte{nil, {}}
	for len(b) > 0 {
		n := source.Intn(len(b) + 1)
		parts = append(parts, b[:n])
		b = b[n:]
	}
	return parts
}

// inverted returns a copy of b in which the bits of the pattern are inverted from the given bit on.
func inverted(b []byte, from int, pattern uint32) []byte {
	b = slices.Clone(b)
	for i := range 32 {
		if pattern>>i&1 == 1 {
			b[(from+i)/8] ^= 1 << ((from + i) % 8)
		}
	}
	return b
}

// P7.1: Sum of known byte strings, and of parts as of their concatenation.
func TestSum(t *testing.T) {
	digits := []byte("123456789")
	for i, c := range []struct {
		parts [][]byte
		want  uint32
	}{
		{nil, 0},
		{[][]byte{nil}, 0},
		{[][]byte{{}, nil, {}}, 0},
		{[][]byte{digits}, 0xCBF43926},
		{[][]byte{digits[:4], digits[4:]}, 0xCBF43926},
		{[][]byte{nil, digits[:1], {}, digits[1:8], digits[8:], nil}, 0xCBF43926},
		{[][]byte{digits[4:], digits[:4]}, crc32.ChecksumIEEE([]byte("567891234"))},
		{[][]byte{digits, digits}, crc32.ChecksumIEEE([]byte("123456789123456789"))},
		{[][]byte{{0}}, 0xD202EF8D},
		{[][]byte{{0, 0, 0, 0}}, 0x2144DF1C},
		{[][]byte{{255}}, 0xFF000000},
		{[][]byte{{255, 255, 255, 255}}, 0xFFFFFFFF},
		{[][]byte{[]byte("a")}, 0xE8B7BE43},
		{[][]byte{[]byte("The quick brown fox jumps over the lazy dog")}, 0x414FA339},
	} {
		if got := Sum(c.parts...); got != c.want {
			t.Errorf("%d: Sum(%v) = %#x, want %#x", i, c.parts, got, c.want)
		}
	}
}

// P7.1: the checksum, by its definition, of all byte strings of up to two bytes and of varied ones in varied parts.
func TestSumByDefinition(t *testing.T) {
	check := func(b []byte, parts ...[]byte) {
		t.Helper()
		want := exactSum(b)
		if got := Sum(parts...); got != want || got != crc32.ChecksumIEEE(b) {
			t.Fatalf("Sum(%v) = %#x, want %#x", parts, got, want)
		}
	}
	check(nil)
	for v := range 256 {
		check([]byte{byte(v)}, []byte{byte(v)})
		for w := range 256 {
			b := []byte{byte(v), byte(w)}
			check(b, b)
			check(b, b[:1], b[1:])
		}
	}
	source := rand.New(rand.NewSource(7))
	for range 500 {
		b := varied(source, 300)
		check(b, b)
		check(b, cut(source, b)...)
	}
	long := make([]byte, 1<<17)
	source.Read(long)
	if got, want := Sum(long), crc32.ChecksumIEEE(long); got != want {
		t.Errorf("Sum of long bytes = %#x, want %#x", got, want)
	}
}

// P7.1: Seal appends the checksum, the least significant byte first.
func TestSeal(t *testing.T) {
	digits := []byte("123456789")
	sealed := []byte("123456789\x26\x39\xF4\xCB")
	for i, c := range []struct {
		parts [][]byte
		want  []byte
	}{
		{nil, []byte{0, 0, 0, 0}},
		{[][]byte{nil, {}}, []byte{0, 0, 0, 0}},
		{[][]byte{{0}}, []byte{0, 0x8D, 0xEF, 0x02, 0xD2}},
		{[][]byte{{255}}, []byte{255, 0, 0, 0, 255}},
		{[][]byte{digits}, sealed},
		{[][]byte{digits[:2], nil, digits[2:]}, sealed},
		{[][]byte{sealed}, exactSeal(sealed)},
	} {
		if got := Seal(c.parts...); !slices.Equal(got, c.want) {
			t.Errorf("%d: Seal(%v) = %v, want %v", i, c.parts, got, c.want)
		}
	}
}

// P7.1: Open returns what was sealed, however it was cut into parts.
func TestSealAndOpen(t *testing.T) {
	source := rand.New(rand.NewSource(8))
	for range 500 {
		b := varied(source, 200)
		sealed := Seal(cut(source, b)...)
		if want := exactSeal(b); !slices.Equal(sealed, want) {
			t.Fatalf("Seal(%v) = %v, want %v", b, sealed, want)
		}
		if got, err := Open(sealed); !slices.Equal(got, b) || err != api.OK {
			t.Fatalf("Open(%v) = %v, %v, want %v", sealed, got, err, b)
		}
	}
}

// P7.1: Open of what is too short, of what is not sealed, and of what only just is.
func TestOpen(t *testing.T) {
	sealed := []byte("123456789\x26\x39\xF4\xCB")
	twice := exactSeal(sealed)
	for i, c := range []struct {
		b, want []byte
		err     api.Errno
	}{
		{nil, nil, api.ErrEnd},
		{[]byte{}, nil, api.ErrEnd},
		{[]byte{0}, nil, api.ErrEnd},
		{[]byte{0, 0}, nil, api.ErrEnd},
		{[]byte{0, 0, 0}, nil, api.ErrEnd},
		{[]byte{7, 7, 7}, nil, api.ErrEnd},
		{[]byte{0, 0, 0, 0}, nil, api.OK},
		{[]byte{0, 0, 0, 1}, nil, api.ErrSum},
		{[]byte{1, 0, 0, 0}, nil, api.ErrSum},
		{[]byte{255, 255, 255, 255}, nil, api.ErrSum},
		{[]byte{0, 0, 0, 0, 0}, nil, api.ErrSum},
		{[]byte{0, 0x8D, 0xEF, 0x02, 0xD2}, []byte{0}, api.OK},
		{[]byte{0, 0xD2, 0x02, 0xEF, 0x8D}, nil, api.ErrSum},
		{sealed, []byte("123456789"), api.OK},
		{sealed[1:], nil, api.ErrSum},
		{sealed[:12], nil, api.ErrSum},
		{[]byte("123456789\xCB\xF4\x39\x26"), nil, api.ErrSum},
		{[]byte("\x26\x39\xF4\xCB123456789"), nil, api.ErrSum},
		{append(slices.Clone(sealed), 0), nil, api.ErrSum},
		{twice, sealed, api.OK},
	} {
		if got, err := Open(c.b); !slices.Equal(got, c.want) || err != c.err {
			t.Errorf("%d: Open(%v) = %v, %v, want %v, %v", i, c.b, got, err, c.want, c.err)
		}
	}
}

// P7.1: Open answers by the last four bytes alone which error there is, for all bytes of up to two values and varied ones.
func TestOpenByDefinition(t *testing.T) {
	check := func(b []byte) {
		t.Helper()
		var want []byte
		err := api.ErrEnd
		if len(b) >= 4 {
			want, err = b[:len(b)-4], api.OK
			if !slices.Equal(exactSeal(want), b) {
				want, err = nil, api.ErrSum
			}
		}
		if got, e := Open(b); !slices.Equal(got, want) || e != err {
			t.Fatalf("Open(%v) = %v, %v, want %v, %v", b, got, e, want, err)
		}
	}
	for n := range 9 {
		for digits := range 1 << n {
			b := make([]byte, n)
			for i := range b {
				b[i] = byte(255 * (digits >> i & 1))
			}
			check(b)
			check(exactSeal(b))
		}
	}
	source := rand.New(rand.NewSource(9))
	for range 1000 {
		b := varied(source, 40)
		check(b)
		sealed := exactSeal(b)
		check(sealed[:source.Intn(len(sealed)+1)])
		check(inverted(sealed, 8*len(b), source.Uint32()))
	}
}

// patterns returns inversions within 32 consecutive bits, the first of them inverted: all within nine bits, those of two bits, those of all bits, and varied ones of every length.
func patterns(source *rand.Rand) []uint32 {
	var list []uint32
	for p := uint32(1); p < 1<<9; p += 2 {
		list = append(list, p)
	}
	for i := 1; i < 32; i++ {
		list = append(list, 1|1<<i, 1<<i|(1<<i-1))
		for range 4 {
			list = append(list, 1|1<<i|source.Uint32()&(1<<i-1))
		}
	}
	return append(list, 0xEDB88320>>5, 0x04C11DB7, 0xDB710641)
}

// P7.2: inversions within 32 consecutive bits change the checksum, at every place of a byte string.
func TestBursts(t *testing.T) {
	source := rand.New(rand.NewSource(10))
	list := patterns(source)
	for _, n := range []int{1, 2, 4, 5, 9, 16} {
		b := make([]byte, n)
		source.Read(b)
		was := Sum(b)
		for _, pattern := range list {
			for from := 0; from+bits.Len32(pattern) <= 8*n; from++ {
				other := inverted(b, from, pattern)
				if Sum(other) == was {
					t.Fatalf("%v and %v have the checksum %#x", b, other, was)
				}
			}
		}
	}
}

// P7.2: inversions within 32 consecutive bits of what is sealed, its checksum among it, are told by Open.
func TestBurstsAreTold(t *testing.T) {
	source := rand.New(rand.NewSource(11))
	list := patterns(source)
	for _, n := range []int{0, 1, 7} {
		b := make([]byte, n)
		source.Read(b)
		sealed := Seal(b)
		for _, pattern := range list {
			for from := 0; from+bits.Len32(pattern) <= 8*len(sealed); from++ {
				got, err := Open(inverted(sealed, from, pattern))
				if len(got) != 0 || err != api.ErrSum {
					t.Fatalf("%v with %#x inverted from bit %d: %v, %v", sealed, pattern, from, got, err)
				}
			}
		}
	}
}

// P7.2: arguments, and the memory behind their length, are not changed.
func TestArgumentsStay(t *testing.T) {
	memory := []byte("123456789 and what lies behind")
	before := slices.Clone(memory)
	parts := [][]byte{memory[:4], memory[4:9], nil, memory[:2]}
	Sum(parts...)
	Seal(parts...)
	Seal(memory[:9])
	Seal(nil, memory[:9])
	if !bytes.Equal(memory, before) {
		t.Errorf("the bytes of the parts are %q now", memory)
	}
	want := [][]byte{before[:4], before[4:9], nil, before[:2]}
	if !slices.EqualFunc(parts, want, bytes.Equal) {
		t.Errorf("the parts are %q now", parts)
	}
	memory = append(Seal(before[:9]), "and what lies behind"...)
	before = slices.Clone(memory)
	for n := range 14 {
		Open(memory[:n])
	}
	if !bytes.Equal(memory, before) {
		t.Errorf("the sealed bytes are %q now", memory)
	}
}

// P7.2: results are new memory, with their spare capacity.
func TestResultsAreNew(t *testing.T) {
	part := append(make([]byte, 0, 64), "123456789"...)
	sealed := Seal(part)
	again := Seal(part)
	clear(sealed[:cap(sealed)])
	if !bytes.Equal(part, []byte("123456789")) || !bytes.Equal(again, []byte("123456789\x26\x39\xF4\xCB")) {
		t.Errorf("a change of what Seal returned changed %q or %q", part, again)
	}
	for _, body := range []string{"", "123456789"} {
		sealed := append(Seal([]byte(body)), "and what lies behind"...)
		before := slices.Clone(sealed)
		one, _ := Open(sealed[:len(body)+4])
		other, _ := Open(sealed[:len(body)+4])
		clear(one[:cap(one)])
		if !bytes.Equal(sealed, before) || string(other) != body {
			t.Errorf("a change of what Open returned changed %q or %q", sealed, other)
		}
	}
}

// P1: calls end without a panic for many and long parts.
func TestManyParts(t *testing.T) {
	long := bytes.Repeat([]byte{170}, 1000)
	parts := slices.Repeat([][]byte{long, nil, {}}, 300)
	all := slices.Concat(parts...)
	if got, want := Sum(parts...), crc32.ChecksumIEEE(all); got != want {
		t.Errorf("Sum of many parts = %#x, want %#x", got, want)
	}
	if got, err := Open(Seal(parts...)); !bytes.Equal(got, all) || err != api.OK {
		t.Errorf("Open of many sealed parts: %d bytes, %v", len(got), err)
	}
}
