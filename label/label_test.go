package label

import (
	"bytes"
	"math/rand"
	"regexp"
	"slices"
	"strings"
	"testing"

	"noonmark/api"
	"noonmark/code"
)

// same reports whether two series are equal, where no labels are equal to an empty list of them.
func same(a, b Series) bool {
	return a.Name == b.Name && slices.Equal(a.Labels, b.Labels)
}

// pairs returns labels from names and values that alternate.
func pairs(list ...string) []Label {
	var labels []Label
	for i := 0; i < len(list); i += 2 {
		labels = append(labels, Label{list[i], list[i+1]})
	}
	return labels
}

// numbered returns n labels with increasing names.
func numbered(n int) []Label {
	var labels []Label
	for i := range n {
		labels = append(labels, Label{"n" + string(rune('0'+i/10)) + string(rune('0'+i%10)), "v"})
	}
	return labels
}

// long returns n times the letter a.
func long(n int) string {
	return strings.Repeat("a", n)
}

// The grammar of the chapter: names, label values and the texts of series, but for the number of labels and the order of their names.
var (
	nameForm  = regexp.MustCompile(`\A[a-z][a-z0-9_]{0,63}\z`)
	valueForm = regexp.MustCompile(`\A[!-+\--<>-z|~]{0,64}\z`)
	pieceForm = regexp.MustCompile(`[^{},=]*[{},=]?`)
	textForm  = regexp.MustCompile(`\A[a-z][a-z0-9_]{0,63}(\{[a-z][a-z0-9_]{0,63}=[!-+\--<>-z|~]{0,64}(,[a-z][a-z0-9_]{0,63}=[!-+\--<>-z|~]{0,64}){0,7}\})?\z`)
)

// exactRight reports whether s is valid, point by point as in the chapter.
func exactRight(s Series) bool {
	if !nameForm.MatchString(s.Name) || len(s.Labels) > 8 {
		return false
	}
	for i, l := range s.Labels {
		if !nameForm.MatchString(l.Name) || !valueForm.MatchString(l.Value) {
			return false
		}
		if i > 0 && l.Name <= s.Labels[i-1].Name {
			return false
		}
	}
	return true
}

// exactMake returns what Make is asked for, with the labels sorted by insertion.
func exactMake(name string, labels []Label) (Series, api.Errno) {
	if !nameForm.MatchString(name) {
		return Series{}, api.ErrForm
	}
	if len(labels) > 8 {
		return Series{}, api.ErrLong
	}
	for _, l := range labels {
		if !nameForm.MatchString(l.Name) || !valueForm.MatchString(l.Value) {
			return Series{}, api.ErrForm
		}
	}
	var sorted []Label
	for _, l := range labels {
		place := 0
		for place < len(sorted) && sorted[place].Name < l.Name {
			place++
		}
		if place < len(sorted) && sorted[place].Name == l.Name {
			return Series{}, api.ErrThere
		}
		sorted = slices.Insert(sorted, place, l)
	}
	return Series{name, sorted}, api.OK
}

// exactText returns the text of a series, piece by piece.
func exactText(s Series) string {
	if !exactRight(s) {
		return ""
	}
	text := s.Name
	for i, l := range s.Labels {
		text += "{,"[min(i, 1):][:1] + l.Name + "=" + l.Value
	}
	if len(s.Labels) > 0 {
		text += "}"
	}
	return text
}

// exactParse returns the series of a text by the grammar.
func exactParse(text string) (Series, bool) {
	if !textForm.MatchString(text) {
		return Series{}, false
	}
	pieces := pieceForm.FindAllString(text, -1)
	s := Series{Name: strings.TrimRight(pieces[0], "{")}
	for i := 1; i+1 < len(pieces); i += 2 {
		s.Labels = append(s.Labels, Label{strings.TrimRight(pieces[i], "="), strings.TrimRight(pieces[i+1], ",}")})
	}
	if !exactRight(s) {
		return Series{}, false
	}
	return s, true
}

// exactBytes returns the encoding of a series, all of whose numbers are less than 128 and so single bytes.
func exactBytes(s Series) []byte {
	if !exactRight(s) {
		return nil
	}
	b := append([]byte{byte(len(s.Name))}, s.Name...)
	b = append(b, byte(len(s.Labels)))
	for _, l := range s.Labels {
		b = append(append(b, byte(len(l.Name))), l.Name...)
		b = append(append(b, byte(len(l.Value))), l.Value...)
	}
	return b
}

// exactRead reads with the calls that the chapter names, all of them one after the other.
func exactRead(r *code.Reader) (Series, api.Errno) {
	s := Series{Name: r.Text(64)}
	n := r.Count(8)
	for range n {
		var l Label
		l.Name = r.Text(64)
		l.Value = r.Text(64)
		s.Labels = append(s.Labels, l)
	}
	switch {
	case r.Err() != api.OK:
		return Series{}, r.Err()
	case !exactRight(s):
		return Series{}, api.ErrForm
	}
	return s, api.OK
}

// exactCompare compares two series as lists of strings, in which what is missing comes before all else.
func exactCompare(a, b Series) int {
	flat := func(s Series) []string {
		list := []string{s.Name}
		for _, l := range s.Labels {
			list = append(list, l.Name, l.Value)
		}
		return list
	}
	return slices.Compare(flat(a), flat(b))
}

// words are names and values, valid ones and invalid ones.
var words = []string{"a", "b", "a_", "a1", "ab", "z", "x9_", long(64), "", "A", "1a", "_", "a-", "{", "a=", "b,", "\x00", "é", "a\xff", long(65)}

// varied returns a series, often a valid one.
func varied(source *rand.Rand) Series {
	bad := source.Intn(2) * source.Intn(5)
	word := func() string {
		if bad == 1 && source.Intn(4) == 0 {
			return words[source.Intn(len(words))]
		}
		return words[source.Intn(8)]
	}
	s := Series{Name: word()}
	for range []int{0, 1, 2, 3, 5, 8, 9, 10}[source.Intn(6+min(bad, 2))] {
		value := word()
		if source.Intn(3) == 0 {
			value = []string{"", "A.b", "~!", "\"|<>-+", long(64)}[source.Intn(5)]
		}
		s.Labels = append(s.Labels, Label{word() + []string{"", "_1", "_2", "_3"}[source.Intn(4)], value})
	}
	if bad == 2 {
		return s
	}
	slices.SortFunc(s.Labels, func(a, b Label) int { return strings.Compare(a.Name, b.Name) })
	if bad == 0 {
		s.Labels = slices.CompactFunc(s.Labels, func(a, b Label) bool { return a.Name == b.Name })
		s.Labels = slices.DeleteFunc(s.Labels, func(l Label) bool { return len(l.Name) > 64 })
	}
	return s
}

// shuffled returns a copy of the labels in any order.
func shuffled(source *rand.Rand, labels []Label) []Label {
	labels = slices.Clone(labels)
	source.Shuffle(len(labels), func(i, j int) { labels[i], labels[j] = labels[j], labels[i] })
	return labels
}

// damaged returns b with bytes changed, taken away, put in or cut off.
func damaged(source *rand.Rand, b []byte) []byte {
	b = slices.Clone(b)
	for range source.Intn(3) {
		i := source.Intn(len(b) + 1)
		c := []byte("a=,{}z_0\x00\x01\x02\x08\x09\x40\x41\x80\xff")[source.Intn(17)]
		switch {
		case i == len(b) || source.Intn(3) == 0:
			b = slices.Insert(b, i, c)
		case source.Intn(3) == 0:
			b = slices.Delete(b, i, i+1)
		case source.Intn(6) == 0:
			b = b[:i]
		default:
			b[i] = c
		}
	}
	return b
}

// P8.1: Make of labels in any order, at the limits, and of what is wrong, the first error first.
func TestMake(t *testing.T) {
	eight, nine := numbered(8), numbered(9)
	reversed := numbered(8)
	slices.Reverse(reversed)
	bad := Label{"A", "v"}
	for i, c := range []struct {
		name   string
		labels []Label
		want   []Label
		err    api.Errno
	}{
		{"hits", pairs("b", "2", "a", "1"), pairs("a", "1", "b", "2"), api.OK},
		{"hits", pairs("a", "1", "b", "2"), pairs("a", "1", "b", "2"), api.OK},
		{"hits", nil, nil, api.OK},
		{"hits", []Label{}, nil, api.OK},
		{"h", pairs("h", "h"), pairs("h", "h"), api.OK},
		{"hits", pairs("b", "", "a", ""), pairs("a", "", "b", ""), api.OK},
		{"hits", pairs("ab", "1", "a_", "2", "a1", "3", "a", "4", "b", "5"), pairs("a", "4", "a1", "3", "a_", "2", "ab", "1", "b", "5"), api.OK},
		{"hits", pairs("b", "same", "c", "same", "a", "same"), pairs("a", "same", "b", "same", "c", "same"), api.OK},
		{long(64), pairs(long(64), long(64)), pairs(long(64), long(64)), api.OK},
		{"hits", eight, eight, api.OK},
		{"hits", reversed, eight, api.OK},
		{"hits", nine, nil, api.ErrLong},
		{"", nil, nil, api.ErrForm},
		{long(65), nil, nil, api.ErrForm},
		{"hits", pairs(long(65), "v"), nil, api.ErrForm},
		{"hits", pairs("a", long(65)), nil, api.ErrForm},
		{"hits", pairs("", "v"), nil, api.ErrForm},
		{"hits", pairs("", ""), nil, api.ErrForm},
		{"hits", pairs("a", "1", "b", "=", "c", "3"), nil, api.ErrForm},
		{"hits", pairs("a", "1", "b", "2", "c", " "), nil, api.ErrForm},
		{"hits", pairs("a", "1", "a", "2"), nil, api.ErrThere},
		{"hits", pairs("a", "1", "a", "1"), nil, api.ErrThere},
		{"hits", pairs("a", "1", "b", "2", "a", "3"), nil, api.ErrThere},
		{"hits", pairs("c", "1", "b", "2", "a", "3", "c", "0"), nil, api.ErrThere},
		{"hits", append(numbered(7), Label{"n06", ""}), nil, api.ErrThere},
		// the error that is named first, of several
		{"Hits", nine, nil, api.ErrForm},
		{"", append(numbered(9), bad, bad), nil, api.ErrForm},
		{"hits", append(numbered(8), bad), nil, api.ErrLong},
		{"hits", append(numbered(8), nine[0]), nil, api.ErrLong},
		{"hits", slices.Repeat([]Label{bad}, 9), nil, api.ErrLong},
		{"hits", pairs("a", "1", "a", "2", "B", "3"), nil, api.ErrForm},
		{"hits", pairs("A", "1", "A", "1"), nil, api.ErrForm},
		{"hits", pairs("a", "1", "a", "{"), nil, api.ErrForm},
		{"1", pairs("a", "1", "a", "1"), nil, api.ErrForm},
	} {
		want := Series{}
		if c.err == api.OK {
			want = Series{c.name, c.want}
		}
		if got, err := Make(c.name, c.labels...); !same(got, want) || err != c.err {
			t.Errorf("%d: Make(%q, %q) = %q, %d; want %q, %d", i, c.name, c.labels, got, err, want, c.err)
		}
	}
}

// P8.1: every byte as the first one of a name, as a later one, and in a label value; Right and Make agree on them.
func TestEveryByte(t *testing.T) {
	const letters = "abcdefghijklmnopqrstuvwxyz"
	check := func(want bool, name string, labels ...Label) {
		t.Helper()
		if got := (Series{name, labels}).Right(); got != want {
			t.Errorf("Right of %q with %q is %t", name, labels, got)
		}
		err := api.OK
		if !want {
			err = api.ErrForm
		}
		if _, got := Make(name, labels...); got != err {
			t.Errorf("Make(%q, %q) has the error %d; want %d", name, labels, got, err)
		}
	}
	for v := range 256 {
		b := string([]byte{byte(v)})
		first := strings.Contains(letters, b)
		later := strings.Contains(letters+"0123456789_", b)
		value := v >= 33 && v <= 126 && !strings.Contains(",={}", b)
		check(first, b)
		check(first, b+"a")
		check(first, "hits", Label{b, ""})
		check(later, "a"+b)
		check(later, "a"+b+"a")
		check(later, long(63)+b)
		check(later, "hits", Label{"a" + b, "v"})
		check(value, "hits", Label{"a", b})
		check(value, "hits", Label{"a", b + "a"})
		check(value, "hits", Label{"a", "a" + b + "a"})
		check(value, "hits", Label{"a", long(63) + b})
		check(false, long(64)+b)
		check(false, "hits", Label{long(64) + b, "v"})
		check(false, "hits", Label{"a", long(64) + b})
	}
}

// P8.1: Right of valid and invalid series.
func TestRight(t *testing.T) {
	for i, c := range []struct {
		s    Series
		want bool
	}{
		{Series{}, false},
		{Series{Name: "hits"}, true},
		{Series{"hits", []Label{}}, true},
		{Series{"hits", pairs("a", "1", "b", "2")}, true},
		{Series{"hits", pairs("b", "2", "a", "1")}, false},
		{Series{"hits", pairs("a", "1", "a", "2")}, false},
		{Series{"hits", pairs("a", "1", "a", "1")}, false},
		{Series{"hits", pairs("a", "1", "c", "2", "b", "3")}, false},
		{Series{"hits", pairs("b", "1", "c", "2", "a", "3")}, false},
		{Series{"hits", pairs("a", "2", "a1", "1", "a_", "0", "aa", "")}, true},
		{Series{"hits", pairs("a", "2", "a_", "1", "a1", "0")}, false},
		{Series{"hits", pairs("aa", "1", "a", "2")}, false},
		{Series{"hits", numbered(8)}, true},
		{Series{"hits", numbered(9)}, false},
		{Series{"hits", numbered(90)}, false},
		{Series{"", numbered(2)}, false},
		{Series{"Hits", numbered(2)}, false},
		{Series{long(64), nil}, true},
		{Series{long(65), nil}, false},
		{Series{"hits", pairs("", "1")}, false},
		{Series{"hits", pairs("", "")}, false},
		{Series{"hits", pairs("a", "", "b", "")}, true},
		{Series{"hits", pairs("A", "1", "b", "2")}, false},
		{Series{"hits", pairs("a", "1", "b", "2 ")}, false},
		{Series{"hits", pairs("a", "1}", "b", "2")}, false},
		{Series{"hits", pairs(long(64), long(64))}, true},
		{Series{"hits", pairs(long(65), "")}, false},
		{Series{"hits", pairs("a", long(65))}, false},
	} {
		if got := c.s.Right(); got != c.want {
			t.Errorf("%d: Right of %q is %t", i, c.s, got)
		}
	}
}

// P8.1: Get finds the first label with the name, in invalid series too.
func TestGet(t *testing.T) {
	twice := Series{"hits", pairs("b", "2", "a", "1", "b", "3", "a", "", "", "none", "\xff,", "=")}
	for i, c := range []struct {
		s     Series
		name  string
		want  string
		found bool
	}{
		{Series{"hits", pairs("a", "1", "b", "2", "c", "")}, "a", "1", true},
		{Series{"hits", pairs("a", "1", "b", "2", "c", "")}, "b", "2", true},
		{Series{"hits", pairs("a", "1", "b", "2", "c", "")}, "c", "", true},
		{Series{"hits", pairs("a", "1", "b", "2", "c", "")}, "d", "", false},
		{Series{"hits", pairs("a", "1", "b", "2", "c", "")}, "", "", false},
		{Series{"hits", pairs("a", "1", "b", "2", "c", "")}, "hits", "", false},
		{Series{"hits", pairs("ab", "1", "abc", "2")}, "abc", "2", true},
		{Series{"hits", pairs("ab", "1", "abc", "2")}, "a", "", false},
		{Series{"hits", nil}, "hits", "", false},
		{Series{"hits", nil}, "", "", false},
		{Series{}, "a", "", false},
		{Series{}, "", "", false},
		{twice, "a", "1", true},
		{twice, "b", "2", true},
		{twice, "", "none", true},
		{twice, "\xff,", "=", true},
		{twice, "A", "", false},
		{Series{"", numbered(30)}, "n29", "v", true},
	} {
		if got, found := c.s.Get(c.name); got != c.want || found != c.found {
			t.Errorf("%d: Get(%q) of %q is %q, %t; want %q, %t", i, c.name, c.s, got, found, c.want, c.found)
		}
	}
}

// P8.2: the texts of series, and the series of texts.
func TestText(t *testing.T) {
	greatest := Series{Name: long(64)}
	greatestText := long(64) + "{"
	for i := range 8 {
		l := Label{string(rune('a'+i)) + long(63), strings.Repeat("~", 64)}
		greatest.Labels = append(greatest.Labels, l)
		greatestText += l.Name + "=" + l.Value + ","
	}
	greatestText = strings.TrimSuffix(greatestText, ",") + "}"
	for i, c := range []struct {
		s    Series
		want string
	}{
		{Series{"hits", pairs("a", "1", "b", "2")}, "hits{a=1,b=2}"},
		{Series{"hits", pairs("a", "1")}, "hits{a=1}"},
		{Series{"hits", pairs("a", "")}, "hits{a=}"},
		{Series{"hits", pairs("a", "", "b", "", "c", "")}, "hits{a=,b=,c=}"},
		{Series{"hits", nil}, "hits"},
		{Series{"hits", []Label{}}, "hits"},
		{Series{"h", pairs("a_1", "/x?y&z:%20!~")}, "h{a_1=/x?y&z:%20!~}"},
		{greatest, greatestText},
	} {
		if got := c.s.Text(); got != c.want {
			t.Errorf("%d: Text of %q is %q; want %q", i, c.s, got, c.want)
		}
		if got, ok := Parse(c.want); !same(got, c.s) || !ok {
			t.Errorf("%d: Parse(%q) = %q, %t; want %q", i, c.want, got, ok, c.s)
		}
	}
	made, _ := Make("hits", Label{"b", "2"}, Label{"a", "1"})
	if got := made.Text(); got != "hits{a=1,b=2}" {
		t.Errorf("the Text of what Make returns is %q", got)
	}
}

// P8.2: invalid series have no text.
func TestNoText(t *testing.T) {
	for _, s := range []Series{
		{}, {"", pairs("a", "1")}, {"Hits", nil}, {"hits{", nil}, {"hits{a=1}", nil}, {long(65), nil}, {"hits", pairs("b", "2", "a", "1")}, {"hits", pairs("a", "1", "a", "1")},
		{"hits", pairs("a", "1,b=2")}, {"hits", pairs("a=1,b", "2")}, {"hits", pairs("", "")}, {"hits", pairs("a", "é")}, {"hits", numbered(9)},
	} {
		if got := s.Text(); got != "" {
			t.Errorf("Text of %q is %q", s, got)
		}
	}
}

// P8.2: texts that no series has.
func TestNoSeries(t *testing.T) {
	nine := "hits{"
	for _, l := range numbered(9) {
		nine += l.Name + "=" + l.Value + ","
	}
	nine = strings.TrimSuffix(nine, ",") + "}"
	for _, text := range []string{
		"", " ", "{", "}", "{}", "=", ",", "{a=1}", "Hits", "1hits", "_", "hits ", " hits", "hits\n", "hits\x00", "hïts", long(65), "hits,hits", "hits=1", "hits,",
		"hits{}", "hits{", "hits}", "hits{{}", "hits{}}", "hits{}{}", "hits{=}", "hits{,}", "hits{=1}", "hits{a}", "hits{a,b}", "hits{a,b=2}", "hits{a=1,b}",
		"hits{a=1", "hits{a=1,b=2", "hits{a=1,}", "hits{,a=1}", "hits{a=1,,b=2}", "hits{a=1}}", "hits{{a=1}", "hits{{a=1}}", "hits{a=1} ", " hits{a=1}", "hits{a=1}x", "hits{a=1}{b=2}", "hits{a=1}{", "hitsa=1}",
		"hits {a=1}", "hits{ a=1}", "hits{a =1}", "hits{a= 1}", "hits{a=1 }", "hits{a=1, b=2}", "hits{a==1}", "hits{a=1=2}", "hits{a=1=}", "hits{a=\x7f}", "hits{a=é}", "hits{A=1}", "hits{1=a}", "hits{a-b=1}",
		"hits{b=2,a=1}", "hits{a=1,a=1}", "hits{a=1,a=2}", "hits{a=1,c=3,b=2}", "hits{a=1;b=2=3}", "hits{a:1}", "hits(a=1)", "hits[a=1]", "hits{\"a\"=1}", "hits\x00{a=1}",
		"hits{a=" + long(65) + "}", "hits{" + long(65) + "=1}", long(65) + "{a=1}", nine, nine[:len(nine)-1],
	} {
		if got, ok := Parse(text); !same(got, Series{}) || ok {
			t.Errorf("Parse(%q) = %q, %t", text, got, ok)
		}
	}
}

// P8.2: all texts of up to eight telling characters, against the grammar.
func TestParseByGrammar(t *testing.T) {
	telling := "ab{=,}"
	found := 0
	texts := []string{""}
	for first, n := 0, 0; n < 8; n++ {
		last := len(texts)
		for _, text := range texts[first:last] {
			for _, c := range telling {
				texts = append(texts, text+string(c))
			}
		}
		first = last
	}
	for _, text := range texts {
		got, ok := Parse(text)
		want, valid := exactParse(text)
		if !same(got, want) || ok != valid || ok && got.Text() != text {
			t.Fatalf("Parse(%q) = %q, %t; want %q, %t", text, got, ok, want, valid)
		}
		if ok {
			found++
		}
	}
	if found < 900 {
		t.Errorf("only %d texts are those of a series", found)
	}
}

// P8.1 and P8.2: varied series and texts, against the definition.
func TestByDefinition(t *testing.T) {
	source := rand.New(rand.NewSource(1))
	valid := 0
	for range 20000 {
		s := varied(source)
		right := exactRight(s)
		if got := s.Right(); got != right {
			t.Fatalf("Right of %q is %t", s, got)
		}
		labels := shuffled(source, s.Labels)
		want, wantErr := exactMake(s.Name, labels)
		if got, err := Make(s.Name, labels...); !same(got, want) || err != wantErr {
			t.Fatalf("Make(%q, %q) = %q, %d; want %q, %d", s.Name, labels, got, err, want, wantErr)
		}
		text := exactText(s)
		if got := s.Text(); got != text {
			t.Fatalf("Text of %q is %q; want %q", s, got, text)
		}
		if right {
			valid++
			if got, ok := Parse(text); !same(got, s) || !ok {
				t.Fatalf("Parse(%q) = %q, %t; want %q", text, got, ok, s)
			}
		}
		text = string(damaged(source, []byte(text)))
		parsed, ok := exactParse(text)
		if got, is := Parse(text); !same(got, parsed) || is != ok {
			t.Fatalf("Parse(%q) = %q, %t; want %q, %t", text, got, is, parsed, ok)
		}
	}
	if valid < 5000 || valid > 19000 {
		t.Errorf("%d of the series are valid", valid)
	}
}

// P8.3: the bytes of series, and the series of bytes.
func TestBytes(t *testing.T) {
	for i, c := range []struct {
		s    Series
		want string
	}{
		{Series{"hits", pairs("a", "1", "b", "22")}, "\x04hits\x02\x01a\x011\x01b\x0222"},
		{Series{"hits", pairs("a", "", "bc", "")}, "\x04hits\x02\x01a\x00\x02bc\x00"},
		{Series{"h", nil}, "\x01h\x00"},
		{Series{"h", []Label{}}, "\x01h\x00"},
		{Series{long(64), pairs(long(64), long(64))}, "\x40" + long(64) + "\x01\x40" + long(64) + "\x40" + long(64)},
		{Series{"h", numbered(8)}, "\x01h\x08\x03n00\x01v\x03n01\x01v\x03n02\x01v\x03n03\x01v\x03n04\x01v\x03n05\x01v\x03n06\x01v\x03n07\x01v"},
	} {
		if got := c.s.Bytes(); string(got) != c.want {
			t.Errorf("%d: Bytes of %q are %q; want %q", i, c.s, got, c.want)
		}
		r := code.New([]byte(c.want))
		if got, err := Read(r); !same(got, c.s) || err != api.OK || r.Left() != 0 || r.End() != api.OK {
			t.Errorf("%d: Read of %q is %q, %d, with %d left and the error %d; want %q", i, c.want, got, err, r.Left(), r.Err(), c.s)
		}
	}
	for _, s := range []Series{{}, {"", numbered(1)}, {"Hits", nil}, {long(65), nil}, {"hits", pairs("b", "2", "a", "1")}, {"hits", pairs("a", "1", "a", "2")}, {"hits", pairs("a", ",")}, {"hits", pairs("", "1")}, {"hits", numbered(9)}} {
		if got := s.Bytes(); len(got) != 0 {
			t.Errorf("Bytes of %q are %q", s, got)
		}
	}
}

// P8.3: Read of bytes that are no series: the error, the bytes that are left, and the reader's own error.
func TestReadErrors(t *testing.T) {
	for i, c := range []struct {
		b    string
		err  api.Errno
		left int
		own  api.Errno
	}{
		// the reader's error, and where it stops
		{"", api.ErrEnd, 0, api.ErrEnd},
		{"\x04hit", api.ErrEnd, 4, api.ErrEnd},
		{"\x04hits", api.ErrEnd, 0, api.ErrEnd},
		{"\x04hits\x01", api.ErrEnd, 0, api.ErrEnd},
		{"\x04hits\x01\x01a", api.ErrEnd, 0, api.ErrEnd},
		{"\x04hits\x01\x01a\x021", api.ErrEnd, 2, api.ErrEnd},
		{"\x04hits\x02\x01a\x011", api.ErrEnd, 0, api.ErrEnd},
		{"\x04hits\x02\x01a\x011\x01b", api.ErrEnd, 0, api.ErrEnd},
		{"\x41" + long(65) + "\x00", api.ErrLong, 67, api.ErrLong},
		{"\x41", api.ErrLong, 1, api.ErrLong},
		{"\x04hits\x09\x01a\x011", api.ErrLong, 5, api.ErrLong},
		{"\x04hits\x01\x41" + long(65) + "\x00", api.ErrLong, 67, api.ErrLong},
		{"\x04hits\x01\x01a\x41" + long(65), api.ErrLong, 66, api.ErrLong},
		{"\x84\x00hits\x00", api.ErrForm, 7, api.ErrForm},
		{"\x04hits\x80\x00", api.ErrForm, 2, api.ErrForm},
		{"\x04hits\x01\x81\x00a\x00", api.ErrForm, 4, api.ErrForm},
		// the reader's error before the invalid series
		{"\x04Hits\x01", api.ErrEnd, 0, api.ErrEnd},
		{"\x00\x09", api.ErrLong, 1, api.ErrLong},
		{"\x04hits\x02\x01b\x00\x01a", api.ErrEnd, 0, api.ErrEnd},
		{"\x04hits\x02\x01a\x00\x01a\x41", api.ErrLong, 1, api.ErrLong},
		// an invalid series, of which all bytes are read
		{"\x00\x00", api.ErrForm, 0, api.OK},
		{"\x00\x00more", api.ErrForm, 4, api.OK},
		{"\x04Hits\x00", api.ErrForm, 0, api.OK},
		{"\x04hit{\x00\x01", api.ErrForm, 1, api.OK},
		{"\x04hits\x01\x00\x00", api.ErrForm, 0, api.OK},
		{"\x04hits\x01\x01A\x00\x07", api.ErrForm, 1, api.OK},
		{"\x04hits\x01\x01a\x01=\x07\x07", api.ErrForm, 2, api.OK},
		{"\x04hits\x02\x01b\x00\x01a\x00\x07", api.ErrForm, 1, api.OK},
		{"\x04hits\x02\x01a\x00\x01a\x00", api.ErrForm, 0, api.OK},
		{"\x04hits\x02\x01a\x011\x01a\x012\xff", api.ErrForm, 1, api.OK},
	} {
		r := code.New([]byte(c.b))
		if s, err := Read(r); !same(s, Series{}) || err != c.err || r.Left() != c.left || r.Err() != c.own {
			t.Errorf("%d: Read of %q is %q, %d, with %d left and the error %d; want %d, %d, %d", i, c.b, s, err, r.Left(), r.Err(), c.err, c.left, c.own)
		}
	}
}

// P8.3: a reader with an error from before gives the error, one with other bytes gives and keeps them.
func TestReadAmongOthers(t *testing.T) {
	one, other := Series{"hits", pairs("a", "1")}, Series{"misses", nil}
	r := code.New(slices.Concat(code.Uints(7), one.Bytes(), code.Texts("Bad"), code.Uints(0), other.Bytes(), code.Ints(-9)))
	r.Uint()
	if s, err := Read(r); !same(s, one) || err != api.OK {
		t.Errorf("the first one is %q, %d", s, err)
	}
	if s, err := Read(r); !same(s, Series{}) || err != api.ErrForm {
		t.Errorf("the invalid one is %q, %d", s, err)
	}
	if s, err := Read(r); !same(s, other) || err != api.OK {
		t.Errorf("the one after it is %q, %d", s, err)
	}
	if v := r.Int(); v != -9 || r.End() != api.OK {
		t.Errorf("what follows is %d, with the error %d", v, r.Err())
	}
	for _, c := range []struct {
		fail func(r *code.Reader)
		err  api.Errno
	}{
		{func(r *code.Reader) { r.Text(0) }, api.ErrLong},
		{func(r *code.Reader) { r.End() }, api.ErrForm},
	} {
		b := one.Bytes()
		r := code.New(b)
		c.fail(r)
		if s, err := Read(r); !same(s, Series{}) || err != c.err || r.Left() != len(b) || r.Err() != c.err {
			t.Errorf("Read after the error %d is %q, %d, with %d left", c.err, s, err, r.Left())
		}
	}
}

// P8.3: varied series and damaged bytes, against the definition; every beginning of an encoding ends too early.
func TestBytesByDefinition(t *testing.T) {
	source := rand.New(rand.NewSource(2))
	kinds := map[api.Errno]int{}
	for range 20000 {
		s := varied(source)
		b := exactBytes(s)
		if got := s.Bytes(); !bytes.Equal(got, b) {
			t.Fatalf("Bytes of %q are %q; want %q", s, got, b)
		}
		b = damaged(source, b)
		r, model := code.New(b), code.New(b)
		got, err := Read(r)
		want, wantErr := exactRead(model)
		if !same(got, want) || err != wantErr || r.Left() != model.Left() || r.Err() != model.Err() {
			t.Fatalf("Read of %q is %q, %d, with %d left and the error %d; want %q, %d, %d, %d", b, got, err, r.Left(), r.Err(), want, wantErr, model.Left(), model.Err())
		}
		if err == api.OK && !bytes.Equal(got.Bytes(), b[:len(b)-r.Left()]) {
			t.Fatalf("Read of %q is %q, whose bytes are %q", b, got, got.Bytes())
		}
		kinds[err]++
	}
	for _, err := range []api.Errno{api.OK, api.ErrEnd, api.ErrLong, api.ErrForm} {
		if kinds[err] < 100 {
			t.Errorf("the error %d came %d times", err, kinds[err])
		}
	}
	b := (Series{"hits", pairs("a", "1", "b", "22")}).Bytes()
	for n := range b {
		if s, err := Read(code.New(b[:n])); !same(s, Series{}) || err != api.ErrEnd {
			t.Errorf("Read of %q is %q, %d", b[:n], s, err)
		}
	}
}

// P8.4: Compare of all pairs of series, invalid ones among them, that stand here in their order.
func TestCompare(t *testing.T) {
	list := []Series{
		{},
		{"", pairs("", "")},
		{"", pairs("", "", "", "")},
		{"", pairs("z", "z")},
		{"A", nil},
		{"a", nil},
		{"a", pairs("", "z")},
		{"a", pairs("a", "")},
		{"a", pairs("a", "", "a", "")},
		{"a", pairs("a", "", "b", "")},
		{"a", pairs("a", "1")},
		{"a", pairs("a", "1", "a", "0")},
		{"a", pairs("a", "1", "b", "0")},
		{"a", pairs("a", "1", "b", "0", "c", "")},
		{"a", pairs("a", "1", "b", "1")},
		{"a", pairs("a", "1", "c", "0")},
		{"a", pairs("a", "10")},
		{"a", pairs("a", "2")},
		{"a", pairs("a", "2", "A", "")},
		{"a", pairs("a=", "")},
		{"a", pairs("aa", "")},
		{"a", pairs("b", "")},
		{"a", pairs("b", "", "a", "")},
		{"a", numbered(8)},
		{"a", numbered(9)},
		{"a\x00", nil},
		{"a_", nil},
		{"aa", nil},
		{"aa", pairs("a", "")},
		{"b", nil},
		{"b", pairs("a", "1")},
		{"\x80", nil},
		{"é", nil},
		{"\xff", nil},
	}
	for i, a := range list {
		for j, b := range list {
			want := 0
			if i < j {
				want = -1
			} else if i > j {
				want = 1
			}
			if got := Compare(a, b); got != want {
				t.Errorf("Compare(%q, %q) = %d; want %d", a, b, got, want)
			}
		}
	}
	if got := Compare(Series{"a", nil}, Series{"a", []Label{}}); got != 0 {
		t.Errorf("nil and no labels compare as %d", got)
	}
}

// P8.4: Compare of varied series, neighbours among them, against the definition.
func TestCompareByDefinition(t *testing.T) {
	source := rand.New(rand.NewSource(3))
	counts := [3]int{}
	for range 20000 {
		a, b := varied(source), varied(source)
		if source.Intn(2) == 0 {
			b = Series{a.Name, slices.Clone(a.Labels)}
			if n := len(b.Labels); n > 0 && source.Intn(2) == 0 {
				b.Labels[source.Intn(n)] = Label{words[source.Intn(8)], words[source.Intn(8)]}
			} else if source.Intn(2) == 0 {
				b.Labels = b.Labels[:source.Intn(n+1)]
			}
		}
		want := exactCompare(a, b)
		if got, back := Compare(a, b), Compare(b, a); got != want || back != -want {
			t.Fatalf("Compare(%q, %q) = %d, and %d the other way round; want %d", a, b, got, back, want)
		}
		counts[want+1]++
	}
	if slices.Min(counts[:]) < 1000 {
		t.Errorf("before, equal and behind came %d times", counts)
	}
}

// P8.4: arguments, and the memory behind their length, are not changed.
func TestArgumentsStay(t *testing.T) {
	memory := pairs("c", "3", "a", "1", "b", "2", "a", "0", "z", "9", "y", "8")
	before := slices.Clone(memory)
	for n := range len(memory) + 1 {
		Make("hits", memory[:n]...)
		Make("", memory[:n]...)
		s := Series{"hits", memory[:n]}
		s.Right()
		s.Get("a")
		s.Text()
		s.Bytes()
		Compare(s, Series{"hits", memory[:2]})
		Compare(Series{"hits", memory[:2]}, s)
	}
	valid := Series{"hits", memory[1:3]}
	if valid.Text() != "hits{a=1,b=2}" || len(valid.Bytes()) == 0 {
		t.Errorf("%q is not valid", valid)
	}
	if !slices.Equal(memory, before) {
		t.Errorf("the labels are %q now", memory)
	}
}

// spoil overwrites a list and its spare capacity.
func spoil[T any](list []T, with T) {
	list = list[:cap(list)]
	for i := range list {
		list[i] = with
	}
}

// P8.4: results are new memory, with their spare capacity.
func TestResultsAreNew(t *testing.T) {
	bad := Label{"BAD", "{}"}
	for n := range 4 {
		labels := append(make([]Label, 0, 16), numbered(n)...)
		want := Series{"hits", numbered(n)}
		made, _ := Make("hits", labels...)
		again, _ := Make("hits", labels...)
		spoil(made.Labels, bad)
		if !same(again, want) || !slices.Equal(labels, want.Labels) || slices.Contains(labels[:cap(labels)], bad) {
			t.Errorf("a change of what Make returned changed %q or %q", again, labels)
		}
		spoil(labels, bad)
		if !same(again, want) {
			t.Errorf("a change of the labels changed what Make returned to %q", again)
		}
		text := want.Text()
		one, _ := Parse(text)
		other, _ := Parse(text)
		spoil(one.Labels, bad)
		if !same(other, want) {
			t.Errorf("a change of what Parse returned changed %q", other)
		}
		b := want.Bytes()
		kept := slices.Clone(b)
		r := code.New(slices.Concat(b, b))
		one, _ = Read(r)
		spoil(one.Labels, bad)
		if other, err := Read(r); !same(other, want) || err != api.OK {
			t.Errorf("a change of what Read returned changed %q, %d", other, err)
		}
		spoil(b, 255)
		if got := want.Bytes(); !bytes.Equal(got, kept) || !same(want, Series{"hits", numbered(n)}) {
			t.Errorf("a change of what Bytes returned changed %q or %q", got, want)
		}
	}
}

// P1: calls end without a panic for very long texts and lists.
func TestLongArguments(t *testing.T) {
	for _, text := range []string{strings.Repeat(",", 1<<22), "a{" + strings.Repeat(",", 1<<22) + "}", "a{" + strings.Repeat("a=1,", 1<<20) + "}", strings.Repeat("a{", 1<<20), long(1 << 22), "a{a=" + long(1<<22) + "}"} {
		if s, ok := Parse(text); !same(s, Series{}) || ok {
			t.Errorf("Parse of %d bytes is %q, %t", len(text), s, ok)
		}
	}
	many := slices.Repeat(numbered(50), 10000)
	if s, err := Make("hits", many...); !same(s, Series{}) || err != api.ErrLong {
		t.Errorf("Make of many labels is %q, %d", s, err)
	}
	s := Series{"hits", many}
	if _, found := s.Get("none"); s.Right() || found || s.Text() != "" || len(s.Bytes()) != 0 || Compare(s, s) != 0 {
		t.Error("a series of many labels is valid or not equal to itself")
	}
}
