package frame

import (
	"bytes"
	"encoding/binary"
	"fmt"
	"hash/crc32"
	"math"
	"math/rand"
	"reflect"
	"slices"
	"strings"
	"testing"

	"noonmark/api"
	"noonmark/code"
	"noonmark/crc"
	"noonmark/label"
)

const (
	maxTime   = 1<<62 - 1
	maxNumber = 1 << 40
)

// bound is an integer field and its greatest value.
type bound struct {
	name string
	most int64
}

// bounds returns the integer fields of a kind, in the order of the chapter's table.
func bounds(kind int) []bound {
	agent, epoch, next := bound{"Agent", 63}, bound{"Epoch", maxNumber}, bound{"Next", maxNumber}
	boot, count := bound{"Boot", maxTime}, bound{"Count", maxTime}
	switch kind {
	case 1:
		return []bound{agent, boot}
	case 2:
		return []bound{agent, boot, epoch}
	case 3:
		return []bound{agent, boot, count}
	case 4:
		return []bound{agent, epoch, boot, count, {"Got", maxTime}, {"Sent", maxTime}}
	case 5, 6:
		return []bound{agent, epoch, next}
	case 7:
		return []bound{agent, epoch, next, {"Stamp", maxTime}}
	case 8:
		return []bound{{"Window", maxTime}}
	}
	return nil
}

// integerNames are the names of all integer fields but the kind.
var integerNames = []string{"Agent", "Epoch", "Boot", "Count", "Got", "Sent", "Next", "Stamp", "Window"}

// get returns an integer field of f by its name.
func get(f Frame, name string) int64 {
	return reflect.ValueOf(f).FieldByName(name).Int()
}

// with returns f with one integer field changed.
func with(f Frame, name string, n int64) Frame {
	reflect.ValueOf(&f).Elem().FieldByName(name).SetInt(n)
	return f
}

// has reports whether a kind has the integer field.
func has(kind int, name string) bool {
	return slices.ContainsFunc(bounds(kind), func(b bound) bool { return b.name == name })
}

// exactRight reports whether f is valid, point by point as in the chapter.
func exactRight(f Frame) bool {
	if f.Kind < 1 || f.Kind > 8 {
		return false
	}
	for _, name := range integerNames {
		if !has(f.Kind, name) && get(f, name) != 0 {
			return false
		}
	}
	for _, b := range bounds(f.Kind) {
		if n := get(f, b.name); n < 0 || n > b.most {
			return false
		}
	}
	if f.Kind == 4 && f.Sent < f.Got {
		return false
	}
	if f.Kind == 5 {
		if len(f.Events) < 1 || len(f.Events) > 64 || f.Next+int64(len(f.Events)) > maxNumber {
			return false
		}
		for _, e := range f.Events {
			if e.Stamp < 0 || e.Stamp > maxTime || !e.Series.Right() {
				return false
			}
		}
	} else if len(f.Events) > 0 {
		return false
	}
	if f.Kind == 8 {
		return f.Series.Right() && len(f.Data) <= 4096
	}
	return f.Series.Name == "" && len(f.Series.Labels) == 0 && len(f.Data) == 0
}

// exactBody returns the bytes of a valid frame before they are sealed, by the library's varints.
func exactBody(f Frame) []byte {
	b := binary.AppendUvarint(nil, uint64(f.Kind))
	for _, field := range bounds(f.Kind) {
		b = binary.AppendUvarint(b, uint64(get(f, field.name)))
	}
	if f.Kind == 5 {
		b = binary.AppendUvarint(b, uint64(len(f.Events)))
		for _, e := range f.Events {
			b = binary.AppendUvarint(b, uint64(e.Stamp))
			b = binary.AppendVarint(b, e.Value)
			b = append(b, e.Series.Bytes()...)
		}
	}
	if f.Kind == 8 {
		b = append(b, f.Series.Bytes()...)
		b = binary.AppendUvarint(b, uint64(len(f.Data)))
		b = append(b, f.Data...)
	}
	return b
}

// sealed returns a body with its checksum, by the library.
func sealed(body []byte) []byte {
	return binary.LittleEndian.AppendUint32(slices.Clone(body), crc32.ChecksumIEEE(body))
}

// exactEncode returns what Encode is asked for.
func exactEncode(f Frame) ([]byte, api.Errno) {
	if !exactRight(f) {
		return nil, api.ErrForm
	}
	b := sealed(exactBody(f))
	if len(b) > 65536 {
		return nil, api.ErrLong
	}
	return b, api.OK
}

// exactDecode returns what Decode is asked for, error by error.
func exactDecode(b []byte) (Frame, api.Errno) {
	if len(b) > 65536 {
		return Frame{}, api.ErrLong
	}
	body, err := crc.Open(b)
	if err != api.OK {
		return Frame{}, err
	}
	var f Frame
	r := code.New(body)
	kind := r.Uint()
	if r.Err() != api.OK {
		return Frame{}, r.Err()
	}
	if kind < 1 || kind > 8 {
		return Frame{}, api.ErrKind
	}
	f.Kind = int(kind)
	for _, field := range bounds(f.Kind) {
		f = with(f, field.name, int64(r.Uint()))
	}
	if f.Kind == 5 {
		n := r.Count(64)
		for range n {
			e := Event{Stamp: int64(r.Uint()), Value: r.Int()}
			e.Series, err = label.Read(r)
			if err != api.OK {
				return Frame{}, err
			}
			f.Events = append(f.Events, e)
		}
	}
	if f.Kind == 8 && r.Err() == api.OK {
		f.Series, err = label.Read(r)
		if err != api.OK {
			return Frame{}, err
		}
		f.Data = []byte(r.Text(4096))
	}
	if r.Err() != api.OK {
		return Frame{}, r.Err()
	}
	if r.Left() > 0 || !exactRight(f) {
		return Frame{}, api.ErrForm
	}
	return f, api.OK
}

// plain returns f with nil in place of empty lists.
func plain(f Frame) Frame {
	bare := func(s label.Series) label.Series {
		if len(s.Labels) == 0 {
			s.Labels = nil
		}
		return s
	}
	events := f.Events
	f.Events = nil
	for _, e := range events {
		e.Series = bare(e.Series)
		f.Events = append(f.Events, e)
	}
	f.Series = bare(f.Series)
	if len(f.Data) == 0 {
		f.Data = nil
	}
	return f
}

// exactSame reports whether two frames are equal.
func exactSame(a, b Frame) bool {
	return reflect.DeepEqual(plain(a), plain(b))
}

// series returns the series of a text.
func series(text string) label.Series {
	s, ok := label.Parse(text)
	if !ok {
		panic("no series: " + text)
	}
	return s
}

// greatest returns the series with the longest encoding.
func greatest() label.Series {
	s := label.Series{Name: strings.Repeat("z", 64)}
	for i := range 8 {
		s.Labels = append(s.Labels, label.Label{Name: string(rune('a'+i)) + strings.Repeat("_", 63), Value: strings.Repeat("~", 64)})
	}
	return s
}

// events returns n events.
func events(n int) []Event {
	var list []Event
	for i := range n {
		list = append(list, Event{int64(i), int64(-i), series("m")})
	}
	return list
}

// hello and so on return valid frames.
func hello() Frame { return Frame{Head: Head{FHello, 3, 0}, Boot: 300} }
func grant() Frame { return Frame{Head: Head{FGrant, 63, 5}, Boot: 7} }
func probe() Frame { return Frame{Head: Head{FProbe, 1, 0}, Boot: 2, Count: 9} }
func reply() Frame {
	return Frame{Head: Head{FReply, 1, 6}, Boot: 2, Count: 9, Got: 100, Sent: 200}
}
func batch() Frame {
	return Frame{Head: Head{FBatch, 4, 8}, Next: 12, Events: []Event{{1014, -3, series("hits{a=1}")}, {1015, 64, series("m")}}}
}
func ack() Frame  { return Frame{Head: Head{FAck, 4, 8}, Next: 14} }
func beat() Frame { return Frame{Head: Head{FBeat, 4, 8}, Next: 15, Stamp: 1016} }
func emit() Frame {
	return Frame{Head: Head{Kind: FEmit}, Window: 5, Series: series("hits{a=1}"), Data: []byte{0, 255, 7}}
}

// all returns a valid frame of each kind.
func all() []Frame {
	return []Frame{hello(), grant(), probe(), reply(), batch(), ack(), beat(), emit()}
}

// longBatch returns a valid batch of 64 events whose encoding has that many bytes.
func longBatch(size int) Frame {
	f := Frame{Head: Head{Kind: FBatch}}
	for range 64 {
		f.Events = append(f.Events, Event{0, 0, greatest()})
	}
	surplus := len(sealed(exactBody(f))) - size
	for _, e := range f.Events {
		for i := range e.Series.Labels {
			l := &e.Series.Labels[i]
			cut := min(surplus, len(l.Value))
			l.Value = l.Value[cut:]
			surplus -= cut
		}
	}
	if got := len(sealed(exactBody(f))); got != size {
		panic("no batch of this size")
	}
	return f
}

// shown returns the start of what a value looks like, which may be long.
func shown(v any) string {
	s := fmt.Sprintf("%+v", v)
	return s[:min(len(s), 400)]
}

// checkRight asks Right and Encode whether f is valid.
func checkRight(t *testing.T, f Frame, want bool) {
	t.Helper()
	if got := f.Right(); got != want || exactRight(f) != want {
		t.Errorf("Right of %s is %t, want %t", shown(f), got, want)
	}
	b, err := Encode(f)
	if want && (err != api.OK || !bytes.Equal(b, sealed(exactBody(f)))) || !want && (err != api.ErrForm || len(b) != 0) {
		t.Errorf("Encode(%s) = %s, %d, where Right is asked for %t", shown(f), shown(b), err, want)
	}
}

// checkDecode asks for the frame, or the error, of bytes.
func checkDecode(t *testing.T, b []byte, want Frame, wantErr api.Errno) {
	t.Helper()
	if f, err := Decode(b); err != wantErr || !exactSame(f, want) {
		t.Errorf("Decode(%s) = %s, %d; want %s, %d", shown(b), shown(f), err, shown(want), wantErr)
	}
}

// checkBody asks for the error of the bytes of a body that is sealed, and says that the definition has the same one.
func checkBody(t *testing.T, body []byte, want api.Errno) {
	t.Helper()
	b := sealed(body)
	if _, err := exactDecode(b); err != want {
		t.Errorf("the body %s has the error %d by definition, not %d", shown(body), err, want)
	}
	checkDecode(t, b, Frame{}, want)
}

// P9.1: the kinds.
func TestKinds(t *testing.T) {
	if got := []int{FHello, FGrant, FProbe, FReply, FBatch, FAck, FBeat, FEmit}; !slices.Equal(got, []int{1, 2, 3, 4, 5, 6, 7, 8}) {
		t.Errorf("the kinds are %d", got)
	}
}

// P9.1 and P9.3: the encoding of each kind, byte by byte, and its frame again.
func TestEncode(t *testing.T) {
	for _, c := range []struct {
		f    Frame
		body []byte
	}{
		{hello(), []byte{1, 3, 172, 2}},
		{Frame{Head: Head{Kind: FHello}}, []byte{1, 0, 0}},
		{grant(), []byte{2, 63, 7, 5}},
		{probe(), []byte{3, 1, 2, 9}},
		{reply(), []byte{4, 1, 6, 2, 9, 100, 200, 1}},
		{Frame{Head: Head{Kind: FReply}}, []byte{4, 0, 0, 0, 0, 0, 0}},
		{batch(), []byte{5, 4, 8, 12, 2, 246, 7, 5, 4, 'h', 'i', 't', 's', 1, 1, 'a', 1, '1', 247, 7, 128, 1, 1, 'm', 0}},
		{ack(), []byte{6, 4, 8, 14}},
		{Frame{Head: Head{FAck, 0, 1 << 40}, Next: 1 << 40}, []byte{6, 0, 128, 128, 128, 128, 128, 32, 128, 128, 128, 128, 128, 32}},
		{beat(), []byte{7, 4, 8, 15, 248, 7}},
		{emit(), []byte{8, 5, 4, 'h', 'i', 't', 's', 1, 1, 'a', 1, '1', 3, 0, 255, 7}},
		{Frame{Head: Head{Kind: FEmit}, Series: series("m")}, []byte{8, 0, 1, 'm', 0, 0}},
		{Frame{Head: Head{Kind: FEmit}, Window: maxTime, Series: series("m")}, []byte{8, 255, 255, 255, 255, 255, 255, 255, 255, 63, 1, 'm', 0, 0}},
	} {
		want := sealed(c.body)
		if got, err := Encode(c.f); !bytes.Equal(got, want) || err != api.OK {
			t.Errorf("Encode(%+v) = %d, %d; want %d", c.f, got, err, want)
		}
		checkDecode(t, want, c.f, api.OK)
	}
	if b, _ := Encode(hello()); len(b) != 8 || !bytes.Equal(b[:4], []byte{1, 3, 172, 2}) {
		t.Errorf("the chapter's example is %d", b)
	}
}

// P9.1: every integer field of every kind at its bounds and beyond them.
func TestBounds(t *testing.T) {
	for _, f := range all() {
		checkRight(t, f, true)
		for _, b := range bounds(f.Kind) {
			most := b.most
			switch {
			case f.Kind == FBatch && b.name == "Next":
				most -= int64(len(f.Events))
			case b.name == "Got":
				f.Sent = maxTime
			case b.name == "Sent":
				f.Got = 0
			}
			for _, n := range []int64{0, 1, most / 2, most - 1, most} {
				checkRight(t, with(f, b.name, n), true)
			}
			for _, n := range []int64{-1, most + 1, -most, math.MinInt64, math.MinInt64 + 1, math.MaxInt64, math.MinInt64 + 5, 1 << 62, -1 << 32} {
				checkRight(t, with(f, b.name, n), false)
			}
		}
	}
}

// P9.1: a field that a kind does not have is zero.
func TestForeignFields(t *testing.T) {
	for _, f := range all() {
		for _, name := range integerNames {
			if has(f.Kind, name) {
				continue
			}
			for _, n := range []int64{1, -1, 63, maxTime, math.MinInt64, math.MaxInt64} {
				checkRight(t, with(f, name, n), false)
			}
		}
		if f.Kind != FBatch {
			g := f
			for _, list := range [][]Event{events(1), events(64), make([]Event, 1), make([]Event, 1000)} {
				g.Events = list
				checkRight(t, g, false)
			}
			g.Events = []Event{}
			checkRight(t, g, true)
		}
		if f.Kind != FEmit {
			g := f
			for _, s := range []label.Series{series("m"), series("m{a=1}"), {Name: "M"}, {Labels: make([]label.Label, 1)}, {Labels: series("m{a=1}").Labels}} {
				g.Series = s
				checkRight(t, g, false)
			}
			g.Series.Labels = []label.Label{}
			checkRight(t, g, true)
			g = f
			g.Data = []byte{0}
			checkRight(t, g, false)
			g.Data = []byte{}
			checkRight(t, g, true)
		}
	}
}

// P9.1: frames of no kind are invalid, whatever they have.
func TestNoKind(t *testing.T) {
	for _, kind := range []int{0, 9, 10, -1, -8, 255, 256, 257, 264, 1<<32 + 1, math.MinInt, math.MinInt + 1, math.MaxInt} {
		for _, f := range append(all(), Frame{}) {
			f.Kind = kind
			checkRight(t, f, false)
		}
	}
	for _, f := range all() { // another kind may lack a field, or ask for one
		for kind := 1; kind <= 8; kind++ {
			f.Kind = kind
			checkRight(t, f, exactRight(f))
		}
	}
}

// P9.1: a reply is not sent before the probe arrived.
func TestSentAndGot(t *testing.T) {
	for _, c := range []struct {
		got, sent int64
		want      bool
	}{
		{0, 0, true}, {5, 5, true}, {5, 6, true}, {0, maxTime, true}, {maxTime, maxTime, true},
		{6, 5, false}, {1, 0, false}, {maxTime, 0, false}, {maxTime, maxTime - 1, false}, {-1, 0, false}, {-2, -1, false}, {0, maxTime + 1, false}, {maxTime + 1, maxTime + 1, false}, {math.MinInt64, math.MaxInt64, false},
	} {
		f := reply()
		f.Got, f.Sent = c.got, c.sent
		checkRight(t, f, c.want)
	}
}

// P9.1: a batch has 1 to 64 events, and its numbers end at 2^40.
func TestEvents(t *testing.T) {
	for _, c := range []struct {
		n    int
		next int64
		want bool
	}{
		{0, 0, false}, {1, 0, true}, {2, 0, true}, {63, 0, true}, {64, 0, true}, {65, 0, false}, {66, 0, false}, {128, 0, false}, {1000, 0, false},
		{1, maxNumber - 1, true}, {1, maxNumber, false}, {2, maxNumber - 1, false}, {64, maxNumber - 64, true}, {64, maxNumber - 63, false}, {64, maxNumber, false},
		{0, maxNumber, false}, {65, maxNumber - 65, false}, {1, -1, false}, {64, -64, false}, {1, math.MaxInt64, false}, {64, math.MaxInt64, false}, {64, math.MinInt64, false},
	} {
		checkRight(t, Frame{Head: Head{Kind: FBatch}, Next: c.next, Events: events(c.n)}, c.want)
	}
	checkRight(t, Frame{Head: Head{Kind: FBatch}, Events: []Event{}}, false)
}

// P9.1: one invalid event, wherever it stands, makes a batch invalid.
func TestOneEvent(t *testing.T) {
	m := series("m")
	for _, c := range []struct {
		e    Event
		want bool
	}{
		{Event{0, 0, m}, true}, {Event{maxTime, math.MaxInt64, m}, true}, {Event{1, math.MinInt64, greatest()}, true}, {Event{1, -1, label.Series{Name: "m", Labels: []label.Label{}}}, true},
		{Event{-1, 0, m}, false}, {Event{maxTime + 1, 0, m}, false}, {Event{math.MinInt64, 0, m}, false}, {Event{math.MaxInt64, 0, m}, false},
		{Event{}, false}, {Event{1, 1, label.Series{Name: "M"}}, false}, {Event{1, 1, label.Series{Name: "m", Labels: []label.Label{{Name: "b", Value: "1"}, {Name: "a", Value: "2"}}}}, false}, {Event{1, 1, label.Series{Name: "m", Labels: make([]label.Label, 9)}}, false},
	} {
		checkRight(t, Frame{Head: Head{Kind: FBatch}, Events: []Event{c.e}}, c.want)
		for _, n := range []int{2, 3, 64} {
			for i := range n {
				f := Frame{Head: Head{Kind: FBatch}, Events: events(n)}
				f.Events[i] = c.e
				checkRight(t, f, c.want)
			}
		}
	}
}

// P9.1: the series and the data of an emission.
func TestEmit(t *testing.T) {
	for _, c := range []struct {
		s    label.Series
		n    int
		want bool
	}{
		{series("m"), 0, true}, {series("m"), 1, true}, {greatest(), 4095, true}, {greatest(), 4096, true},
		{series("m"), 4097, false}, {greatest(), 4097, false}, {series("m"), 1 << 17, false},
		{label.Series{}, 0, false}, {label.Series{}, 9, false}, {label.Series{Name: "M"}, 1, false}, {label.Series{Labels: series("m{a=1}").Labels}, 1, false}, {label.Series{Name: "m", Labels: make([]label.Label, 1)}, 1, false},
	} {
		checkRight(t, Frame{Head: Head{Kind: FEmit}, Window: 1, Series: c.s, Data: bytes.Repeat([]byte{'d'}, c.n)}, c.want)
	}
}

// P9.1: an encoding of 65,536 bytes, its checksum among them, and longer ones.
func TestLongFrames(t *testing.T) {
	for _, size := range []int{65530, 65535, 65536} {
		f := longBatch(size)
		b, err := Encode(f)
		if !f.Right() || err != api.OK || len(b) != size || !bytes.Equal(b, sealed(exactBody(f))) {
			t.Errorf("a batch of %d bytes: %t, %d bytes, %d", size, f.Right(), len(b), err)
		}
		checkDecode(t, b, f, api.OK)
	}
	for _, size := range []int{65537, 65538, 65540, 65541, 70000} {
		f := longBatch(size)
		if b, err := Encode(f); !f.Right() || err != api.ErrLong || len(b) != 0 {
			t.Errorf("a batch of %d bytes: %t, %d bytes, %d", size, f.Right(), len(b), err)
		}
		checkDecode(t, sealed(exactBody(f)), Frame{}, api.ErrLong)
		for _, wrong := range []Frame{with(f, "Boot", 1), with(f, "Next", maxNumber), with(f, "Agent", 64)} { // ErrForm is named first
			checkRight(t, wrong, false)
		}
		f.Events[63].Series.Name = ""
		checkRight(t, f, false)
	}
}

// P9.1: Same tells a change of any field, and nil lists equal empty ones.
func TestSame(t *testing.T) {
	check := func(a, b Frame, want bool) {
		t.Helper()
		if Same(a, b) != want || Same(b, a) != want || exactSame(a, b) != want {
			t.Errorf("Same(%+v, %+v) is not %t", a, b, want)
		}
	}
	full := func() Frame {
		return Frame{Head{5, 1, 2}, 3, 4, 5, 6, 7, 8, 9, batch().Events, series("hits{a=1,b=2}"), []byte{1, 2, 3}}
	}
	for _, base := range []func() Frame{full, func() Frame { return Frame{} }, hello, batch, emit} {
		check(base(), base(), true)
		for _, name := range append(integerNames, "Kind") {
			for _, n := range []int64{1, -1, 1 << 40, 1 << 32, math.MinInt64} {
				check(base(), with(base(), name, get(base(), name)+n), false)
			}
		}
		for _, names := range [][2]string{{"Boot", "Count"}, {"Got", "Sent"}, {"Next", "Stamp"}, {"Agent", "Epoch"}} { // not by their sum
			f := with(base(), names[0], get(base(), names[0])+1)
			check(base(), with(f, names[1], get(base(), names[1])-1), false)
		}
	}
	for i, change := range []func(f *Frame){
		func(f *Frame) { f.Events = nil },
		func(f *Frame) { f.Events = f.Events[:1] },
		func(f *Frame) { f.Events = append(f.Events, Event{}) },
		func(f *Frame) { f.Events[0], f.Events[1] = f.Events[1], f.Events[0] },
		func(f *Frame) { f.Events[0].Stamp++ },
		func(f *Frame) { f.Events[1].Stamp = -1 },
		func(f *Frame) { f.Events[0].Value-- },
		func(f *Frame) { f.Events[1].Value = math.MinInt64 },
		func(f *Frame) { f.Events[1].Series.Name = "M" },
		func(f *Frame) { f.Events[0].Series.Labels = nil },
		func(f *Frame) { f.Events[0].Series.Labels[0].Name = "b" },
		func(f *Frame) { f.Events[0].Series.Labels[0].Value = "" },
		func(f *Frame) { f.Series.Name = "" },
		func(f *Frame) { f.Series.Labels[1].Value = "3" },
		func(f *Frame) { f.Series.Labels = f.Series.Labels[:1] },
		func(f *Frame) { f.Series.Labels = append(f.Series.Labels, label.Label{}) },
		func(f *Frame) { slices.Reverse(f.Series.Labels) },
		func(f *Frame) { f.Data = nil },
		func(f *Frame) { f.Data = f.Data[:2] },
		func(f *Frame) { f.Data = append(f.Data, 0) },
		func(f *Frame) { f.Data[2] = 0 },
	} {
		f := full()
		change(&f)
		if Same(f, full()) || Same(full(), f) {
			t.Errorf("Same does not tell change %d", i)
		}
		check(f, f, true)
	}
	empty := Frame{Events: []Event{}, Series: label.Series{Labels: []label.Label{}}, Data: []byte{}}
	check(Frame{}, empty, true)
	check(Frame{Events: make([]Event, 1)}, Frame{Events: []Event{{Series: empty.Series}}}, true)
	check(Frame{Events: make([]Event, 1)}, Frame{}, false)
	check(Frame{Data: make([]byte, 1)}, Frame{}, false)
	check(Frame{Series: label.Series{Labels: make([]label.Label, 1)}}, Frame{}, false)
}

// P9.2: the length comes first, then the checksum, then the fields.
func TestDecodeOrder(t *testing.T) {
	wrongSum := func(n int) []byte { return append(make([]byte, n-1), 1) }
	for _, c := range []struct {
		b   []byte
		err api.Errno
	}{
		{nil, api.ErrEnd}, {[]byte{}, api.ErrEnd}, {[]byte{1}, api.ErrEnd}, {[]byte{9, 9, 9}, api.ErrEnd},
		{[]byte{0, 0, 0, 1}, api.ErrSum}, {[]byte{1, 3, 172, 2}, api.ErrSum}, {[]byte{9, 0, 0, 0, 0}, api.ErrSum},
		{[]byte{0, 0, 0, 0}, api.ErrEnd}, // sealed, but no kind is there
		{wrongSum(65536), api.ErrSum}, {wrongSum(65537), api.ErrLong}, {wrongSum(1 << 20), api.ErrLong},
		{sealed(make([]byte, 65532)), api.ErrKind}, {sealed(make([]byte, 65533)), api.ErrLong},
		{sealed(append([]byte{1, 3, 5}, make([]byte, 65529)...)), api.ErrForm}, {sealed(append([]byte{1, 3, 5}, make([]byte, 65530)...)), api.ErrLong},
	} {
		if _, err := exactDecode(c.b); err != c.err {
			t.Errorf("%d bytes have the error %d by definition, not %d", len(c.b), err, c.err)
		}
		checkDecode(t, c.b, Frame{}, c.err)
	}
}

// P9.2: kinds that there are not are told as soon as the kind is decoded.
func TestDecodeKind(t *testing.T) {
	for _, kind := range []uint64{0, 9, 10, 127, 128, 255, 256, 257, 264, 1<<32 + 1, 1 << 62, 1<<63 - 1, 1 << 63, 1<<63 + 1, math.MaxUint64, math.MaxUint64 - 7} {
		head := code.Uints(kind)
		for _, rest := range [][]byte{nil, {3, 172, 2}, {3, 172}, {128, 0}, {255}, exactBody(batch())[1:]} {
			checkBody(t, slices.Concat(head, rest), api.ErrKind)
		}
	}
	for _, c := range []struct {
		body []byte
		err  api.Errno
	}{
		{nil, api.ErrEnd}, {[]byte{128}, api.ErrEnd}, {[]byte{137}, api.ErrEnd}, {[]byte{255, 255}, api.ErrEnd},
		{[]byte{129, 0, 3, 5}, api.ErrForm}, {[]byte{128, 0}, api.ErrForm}, {[]byte{255, 255, 255, 255, 255, 255, 255, 255, 255, 2}, api.ErrForm},
	} {
		checkBody(t, c.body, c.err)
	}
}

// P9.2: a frame that ends early, at every place, and one that does not end.
func TestDecodeEnd(t *testing.T) {
	list := append(all(), with(beat(), "Stamp", maxTime), Frame{Head: Head{Kind: FBatch}, Events: []Event{{maxTime, math.MinInt64, greatest()}, {1, 1, series("m{a=1}")}}})
	for _, f := range list {
		body := exactBody(f)
		for n := range body {
			checkBody(t, body[:n], api.ErrEnd)
		}
		checkDecode(t, sealed(body), f, api.OK)
		for _, rest := range [][]byte{{0}, {1}, {255}, {128, 0}, body, sealed(body)} {
			checkBody(t, slices.Concat(body, rest), api.ErrForm)
		}
		b := sealed(body)
		for n := range b { // and not sealed anew
			err := api.ErrEnd
			if n >= 4 {
				err = api.ErrSum
			}
			checkDecode(t, b[:n], Frame{}, err)
		}
	}
}

// P9.2: the first error of the fields, of several.
func TestDecodeErrors(t *testing.T) {
	join := func(parts ...[]byte) []byte { return slices.Concat(parts...) }
	name := func(n int) []byte { return code.Texts(strings.Repeat("a", n)) }
	manyEvents := func(n int) []byte { // of those that a count may promise
		b := append([]byte{5, 4, 8, 12}, code.Uints(uint64(n))...)
		return append(b, bytes.Repeat([]byte{0, 0, 1, 'm', 0}, n)...)
	}
	data := func(n int) []byte {
		return join([]byte{8, 5, 1, 'm', 0}, code.Texts(strings.Repeat("d", n)))
	}
	for _, c := range []struct {
		body []byte
		err  api.Errno
	}{
		// integers that are not the shortest, or too great to be any
		{[]byte{1, 131, 0, 5}, api.ErrForm}, {[]byte{1, 3, 128, 0}, api.ErrForm}, {[]byte{1, 3, 255, 255, 255, 255, 255, 255, 255, 255, 255, 2}, api.ErrForm},
		{[]byte{1, 131, 0}, api.ErrForm}, {[]byte{1, 131}, api.ErrEnd}, {[]byte{6, 4, 8, 128, 0, 9}, api.ErrForm},
		// integers beyond their bounds, after all has been read
		{[]byte{1, 64, 5}, api.ErrForm}, {[]byte{1, 64}, api.ErrEnd}, {[]byte{1, 64, 128}, api.ErrEnd}, {[]byte{2, 1, 5}, api.ErrEnd},
		{join([]byte{1}, code.Uints(1<<63+3, 5)), api.ErrForm}, {join([]byte{1}, code.Uints(1<<63+3)), api.ErrEnd}, {join([]byte{1}, code.Uints(math.MaxUint64)), api.ErrEnd},
		{join([]byte{1, 3}, code.Uints(1<<62)), api.ErrForm}, {join([]byte{1, 3}, code.Uints(1<<63)), api.ErrForm}, {join([]byte{1, 3}, code.Uints(math.MaxUint64)), api.ErrForm},
		{join([]byte{2, 3, 5}, code.Uints(1<<40+1)), api.ErrForm}, {join([]byte{6, 4, 8}, code.Uints(1<<40+1)), api.ErrForm}, {join([]byte{7, 4, 8, 0}, code.Uints(1<<63)), api.ErrForm},
		{join([]byte{7, 4, 8}, code.Uints(1<<40+1, 0)), api.ErrForm}, {join([]byte{8}, code.Uints(1<<62), []byte{1, 'm', 0, 0}), api.ErrForm},
		{join([]byte{8}, code.Uints(1<<63), []byte{1, 'm', 0}), api.ErrEnd}, {[]byte{4, 1, 6, 2, 9, 100, 99}, api.ErrForm}, {[]byte{4, 1, 6, 2, 9, 100}, api.ErrEnd},
		{join([]byte{5, 4, 8}, code.Uints(1<<40), []byte{1, 0, 0, 1, 'm', 0}), api.ErrForm}, {join([]byte{5, 4, 8}, code.Uints(1<<40), []byte{65}), api.ErrLong},
		// the number of events
		{[]byte{5, 4, 8, 12, 0}, api.ErrForm}, {[]byte{5, 4, 8, 12, 0, 0}, api.ErrForm}, {[]byte{5, 4, 8, 12, 65}, api.ErrLong}, {manyEvents(65), api.ErrLong}, {manyEvents(300), api.ErrLong}, {[]byte{5, 64, 8, 12, 65}, api.ErrLong},
		{join([]byte{5, 4, 8, 12}, code.Uints(math.MaxUint64)), api.ErrLong}, {join([]byte{5, 4, 8, 12}, code.Uints(1<<32+1), []byte{0, 0, 1, 'm', 0}), api.ErrLong},
		{[]byte{5, 4, 8, 12, 129, 0}, api.ErrForm}, {[]byte{5, 4, 8, 12, 64}, api.ErrEnd}, {[]byte{5, 4, 8, 12, 2, 0, 0, 1, 'm', 0}, api.ErrEnd}, {[]byte{5, 4, 8, 12, 1, 0, 0, 1, 'm', 0, 0}, api.ErrForm},
		// events
		{[]byte{5, 4, 8, 12, 1, 128, 0, 0, 1, 'm', 0}, api.ErrForm}, {[]byte{5, 4, 8, 12, 1, 0, 128, 0, 1, 'm', 0}, api.ErrForm}, {[]byte{5, 4, 8, 12, 1, 0, 128}, api.ErrEnd},
		{join([]byte{5, 4, 8, 12, 1}, code.Uints(1<<62), []byte{0, 1, 'm', 0}), api.ErrForm}, {join([]byte{5, 4, 8, 12, 1}, code.Uints(1<<63), []byte{0, 1, 'm', 0}), api.ErrForm}, {join([]byte{5, 4, 8, 12, 1}, code.Uints(1<<63), []byte{0, 1, 'm', 9}), api.ErrLong},
		// the series of events: an invalid one is told before what follows it
		{[]byte{5, 4, 8, 12, 1, 0, 0, 1, 'M', 0}, api.ErrForm}, {[]byte{5, 4, 8, 12, 1, 0, 0, 0, 0}, api.ErrForm}, {[]byte{5, 4, 8, 12, 2, 0, 0, 1, 'M', 0}, api.ErrForm}, {[]byte{5, 4, 8, 12, 2, 0, 0, 1, 'M', 0, 0, 0, 65}, api.ErrForm},
		{[]byte{5, 4, 8, 12, 2, 0, 0, 1, 'm', 0, 0, 0, 65}, api.ErrLong}, {[]byte{5, 4, 8, 12, 1, 0, 0, 1, 'm', 9}, api.ErrLong}, {[]byte{5, 4, 8, 12, 1, 0, 0, 1, 'M', 1, 1}, api.ErrEnd}, {[]byte{5, 4, 8, 12, 1, 0, 0, 1, 'm', 2, 1, 'b', 0, 1, 'a', 0}, api.ErrForm},
		{join([]byte{5, 4, 8, 12, 1, 0, 0}, name(65), []byte{0}), api.ErrLong}, {join([]byte{5, 4, 8, 12, 1, 0, 0, 1, 'm', 1}, name(65), name(1)), api.ErrLong}, {join([]byte{5, 4, 8, 12, 1, 0, 0, 1, 'm', 1}, name(1), name(65)), api.ErrLong},
		// emissions
		{[]byte{8, 5, 1, 'M', 0, 3}, api.ErrForm}, {[]byte{8, 5, 1, 'M', 0}, api.ErrForm}, {[]byte{8, 5, 0, 0, 0}, api.ErrForm}, {[]byte{8, 5, 65}, api.ErrLong}, {[]byte{8, 5, 1, 'm', 9}, api.ErrLong}, {[]byte{8, 128, 0, 1, 'm', 0, 0}, api.ErrForm},
		{join([]byte{8, 5, 1, 'M', 0}, code.Uints(4097)), api.ErrForm}, {join([]byte{8, 5, 1, 'm', 0}, code.Uints(4097)), api.ErrLong}, {join([]byte{8, 5, 1, 'm', 0}, code.Uints(4096)), api.ErrEnd}, {data(4097), api.ErrLong}, {data(60000), api.ErrLong},
		{join([]byte{8, 5, 1, 'm', 0}, code.Uints(math.MaxUint64)), api.ErrLong}, {join([]byte{8, 5, 1, 'm', 0}, []byte{128, 0}), api.ErrForm}, {[]byte{8, 5, 1, 'm', 0, 2, 1}, api.ErrEnd}, {[]byte{8, 5, 1, 'm', 0, 2, 1, 1, 1}, api.ErrForm},
	} {
		checkBody(t, c.body, c.err)
	}
	f := emit()
	f.Series, f.Data = series("m"), bytes.Repeat([]byte{'d'}, 4096)
	checkDecode(t, sealed(data(4096)), f, api.OK)
	checkDecode(t, sealed(manyEvents(64)), Frame{Head: Head{FBatch, 4, 8}, Next: 12, Events: slices.Repeat([]Event{{0, 0, series("m")}}, 64)}, api.OK)
}

// checkDefinition asks Decode for what the definition says of the bytes, and for the way back.
func checkDefinition(t *testing.T, b []byte) api.Errno {
	t.Helper()
	want, wantErr := exactDecode(b)
	f, err := Decode(b)
	if err != wantErr || !exactSame(f, want) {
		t.Fatalf("Decode(%s) = %s, %d; want %s, %d", shown(b), shown(f), err, shown(want), wantErr)
	}
	if err != api.OK {
		return err
	}
	if again, err := Encode(f); err != api.OK || !bytes.Equal(again, b) {
		t.Fatalf("Encode(Decode(%s)) = %s, %d", shown(b), shown(again), err)
	}
	return err
}

// P9.2 and P9.3: every value of every byte of a frame of each kind, against the definition.
func TestEveryByte(t *testing.T) {
	for _, f := range all() {
		body := exactBody(f)
		for i := range body {
			for v := range 256 {
				other := slices.Clone(body)
				other[i] = byte(v)
				checkDefinition(t, sealed(other))
			}
		}
	}
}

// P9.2 and P9.3: all bodies of up to five telling bytes, against the definition.
func TestShortBodies(t *testing.T) {
	telling := []byte{0, 1, 2, 3, 5, 6, 8, 9, 'm', 128}
	bodies := [][]byte{nil}
	for first, n := 0, 0; n < 5; n++ {
		last := len(bodies)
		for _, body := range bodies[first:last] {
			for _, v := range telling {
				bodies = append(bodies, append(slices.Clone(body), v))
			}
		}
		first = last
	}
	found := 0
	for _, body := range bodies {
		if checkDefinition(t, sealed(body)) == api.OK {
			found++
		}
	}
	if found < 1000 {
		t.Errorf("only %d bodies are those of a frame", found)
	}
}

// P9.2: inverted bits within a frame are told by its checksum, never read.
func TestDamageIsTold(t *testing.T) {
	for _, f := range all() {
		b, err := Encode(f)
		if err != api.OK {
			t.Fatal(f, err)
		}
		for i := range 8 * len(b) {
			other := slices.Clone(b)
			other[i/8] ^= 1 << (i % 8)
			checkDecode(t, other, Frame{}, api.ErrSum)
		}
	}
}

// variedNumber returns a number from 0 to most, often one at the edge.
func variedNumber(source *rand.Rand, most int64) int64 {
	switch source.Intn(12) {
	case 0:
		return most
	case 1:
		return 0
	case 2:
		return most - source.Int63n(3)
	case 3:
		return most>>source.Intn(62) | 1
	}
	return source.Int63n(min(most, 1000) + 1)
}

func variedSeries(source *rand.Rand) label.Series {
	s := label.Series{Name: []string{"m", "hits", "a_1", strings.Repeat("z", 64)}[source.Intn(4)]}
	for i := range source.Intn(5) * source.Intn(3) {
		s.Labels = append(s.Labels, label.Label{Name: string(rune('a' + i)), Value: strings.Repeat("v", source.Intn(65))})
	}
	return s
}

// varied returns a frame, mostly a valid one.
func varied(source *rand.Rand) Frame {
	f := Frame{Head: Head{Kind: 1 + source.Intn(8)}}
	for _, b := range bounds(f.Kind) {
		f = with(f, b.name, variedNumber(source, b.most))
	}
	f.Got, f.Sent = min(f.Got, f.Sent), max(f.Got, f.Sent)
	if f.Kind == FBatch {
		for range []int{1, 2, 3, 10, 64}[source.Intn(5)] {
			f.Events = append(f.Events, Event{variedNumber(source, maxTime), int64(source.Uint64()) >> source.Intn(64), variedSeries(source)})
		}
		f.Next = max(0, f.Next-int64(len(f.Events)))
	}
	if f.Kind == FEmit {
		f.Series = variedSeries(source)
		f.Data = make([]byte, source.Intn(200))
		source.Read(f.Data)
	}
	if source.Intn(4) == 0 {
		n := []int64{1, -1, 64, 1<<40 + 1, 1 << 62, math.MinInt64, math.MaxInt64}[source.Intn(7)]
		f = with(f, integerNames[source.Intn(len(integerNames))], n)
	}
	if source.Intn(20) == 0 {
		f.Kind = source.Intn(11) - 1
	}
	return f
}

// damaged returns b with bytes changed, taken away, put in or cut off.
func damaged(source *rand.Rand, b []byte) []byte {
	b = slices.Clone(b)
	for range 1 + source.Intn(2) {
		i := source.Intn(len(b) + 1)
		v := []byte{0, 1, 2, 5, 8, 9, 64, 65, 127, 128, 255, 'a', 'm'}[source.Intn(13)]
		switch {
		case i == len(b) || source.Intn(4) == 0:
			b = slices.Insert(b, i, v)
		case source.Intn(3) == 0:
			b = slices.Delete(b, i, i+1)
		case source.Intn(6) == 0:
			b = b[:i]
		default:
			b[i] = v
		}
	}
	return b
}

// P9.1, P9.2 and P9.3: varied frames there and back, and their bytes damaged, against the definition.
func TestByDefinition(t *testing.T) {
	source := rand.New(rand.NewSource(9))
	valid := 0
	told := map[api.Errno]int{}
	for range 20000 {
		f := varied(source)
		if got, want := f.Right(), exactRight(f); got != want {
			t.Fatalf("Right of %s is %t", shown(f), got)
		}
		want, wantErr := exactEncode(f)
		b, err := Encode(f)
		if err != wantErr || !bytes.Equal(b, want) {
			t.Fatalf("Encode(%s) = %s, %d; want %s, %d", shown(f), shown(b), err, shown(want), wantErr)
		}
		if err != api.OK {
			continue
		}
		valid++
		if g, err := Decode(b); err != api.OK || !exactSame(f, g) || !Same(f, g) || !Same(g, f) {
			t.Fatalf("Decode(Encode(%s)) = %s, %d", shown(f), shown(g), err)
		}
		told[checkDefinition(t, sealed(damaged(source, exactBody(f))))]++
		checkDefinition(t, damaged(source, b))
	}
	if valid < 10000 {
		t.Errorf("only %d frames were valid", valid)
	}
	for _, err := range []api.Errno{api.OK, api.ErrForm, api.ErrEnd, api.ErrKind, api.ErrLong} {
		if told[err] < 100 {
			t.Errorf("only %d damaged frames had the error %d", told[err], err)
		}
	}
}

// P9.1: Same of varied frames, pair by pair.
func TestSameByDefinition(t *testing.T) {
	source := rand.New(rand.NewSource(10))
	var list []Frame
	for range 150 {
		f := varied(source)
		list = append(list, f, plain(f))
	}
	for _, a := range list {
		for _, b := range list {
			if got := Same(a, b); got != exactSame(a, b) {
				t.Fatalf("Same(%s, %s) is %t", shown(a), shown(b), got)
			}
		}
	}
}

// copied returns a frame that shares no memory with f.
func copied(f Frame) Frame {
	f.Events = slices.Clone(f.Events)
	for i := range f.Events {
		f.Events[i].Series.Labels = slices.Clone(f.Events[i].Series.Labels)
	}
	f.Series.Labels = slices.Clone(f.Series.Labels)
	f.Data = slices.Clone(f.Data)
	return f
}

// roomy returns a frame as f, whose lists are the starts of longer ones, and these.
func roomy(f Frame) (Frame, []Event, []label.Label, []byte) {
	f = copied(f)
	list := append(f.Events, Event{7, 7, series("behind")}, Event{8, 8, series("behind")})
	labels := append(f.Series.Labels, label.Label{Name: "behind", Value: "1"})
	data := append(f.Data, "behind"...)
	f.Events, f.Series.Labels, f.Data = list[:len(f.Events)], labels[:len(f.Series.Labels)], data[:len(f.Data)]
	return f, list, labels, data
}

// P9.3: arguments, and the memory behind their lengths, are not changed.
func TestArgumentsStay(t *testing.T) {
	list := append(all(), longBatch(65536), longBatch(65537), Frame{Head: Head{Kind: 9}}, with(batch(), "Boot", 1), with(emit(), "Agent", 1))
	for _, was := range list {
		f, listed, labels, data := roomy(was)
		listedWas, labelsWas, dataWas := copied(Frame{Events: listed}).Events, slices.Clone(labels), slices.Clone(data)
		f.Right()
		Encode(f)
		Same(f, was)
		Same(was, f)
		if !exactSame(f, was) || !reflect.DeepEqual(listed, listedWas) || !slices.Equal(labels, labelsWas) || !bytes.Equal(data, dataWas) {
			t.Errorf("%s has become %s, with %s, %q and %q", shown(was), shown(f), shown(listed), labels, data)
		}
		memory := append(sealed(exactBody(was)), "behind"...)
		before := slices.Clone(memory)
		for _, n := range []int{0, 3, len(memory) - 7, len(memory) - 6, len(memory)} {
			Decode(memory[:n])
		}
		if !bytes.Equal(memory, before) {
			t.Errorf("Decode made %s of %s", shown(memory), shown(before))
		}
	}
}

// scribble overwrites all memory of a frame's lists, with what is behind their lengths.
func scribble(f Frame) {
	labels := func(list []label.Label) {
		list = list[:cap(list)]
		for i := range list {
			list[i] = label.Label{Name: "X", Value: "X"}
		}
	}
	for i := range f.Events {
		labels(f.Events[i].Series.Labels)
	}
	all := f.Events[:cap(f.Events)]
	for i := range all {
		all[i] = Event{-1, -1, label.Series{Name: "X"}}
	}
	labels(f.Series.Labels)
	data := f.Data[:cap(f.Data)]
	for i := range data {
		data[i] = 'X'
	}
}

// P9.3: results are new memory: a change of one changes no other result, nor what was given, nor the other way round.
func TestResultsAreNew(t *testing.T) {
	for _, was := range append(all(), longBatch(65536)) {
		f := copied(was)
		b, _ := Encode(f)
		again, _ := Encode(f)
		want := slices.Clone(b)
		clear(b[:cap(b)])
		if !bytes.Equal(again, want) || !exactSame(f, was) {
			t.Errorf("a change of what Encode returned changed %s or %s", shown(again), shown(f))
		}
		b = slices.Clone(want)
		one, _ := Decode(b)
		other, _ := Decode(b)
		scribble(one)
		if !bytes.Equal(b, want) || !exactSame(other, was) {
			t.Errorf("a change of what Decode returned changed %s or %s", shown(b), shown(other))
		}
		clear(b)
		if !exactSame(other, was) {
			t.Errorf("a change of the bytes changed %s", shown(other))
		}
		scribble(f)
		if !bytes.Equal(again, want) {
			t.Errorf("a change of the frame changed its bytes, %s", shown(again))
		}
	}
}

// P9.3: the lists of one decoded frame share no memory.
func TestListsAreApart(t *testing.T) {
	f := Frame{Head: Head{Kind: FBatch}}
	for range 6 {
		f.Events = append(f.Events, Event{1, 2, series("hits{a=1,b=2,c=3}")})
	}
	b, _ := Encode(f)
	for i := range f.Events {
		g, _ := Decode(b)
		labels := g.Events[i].Series.Labels
		labels = labels[:cap(labels)]
		for j := range labels {
			labels[j] = label.Label{Name: "X", Value: "X"}
		}
		g.Events[i] = f.Events[i]
		if !exactSame(f, g) {
			t.Errorf("a change of the labels of event %d changed %+v", i, g)
		}
	}
}

// P1: calls end without a panic for any bytes, sealed or not.
func TestAnyBytes(t *testing.T) {
	source := rand.New(rand.NewSource(11))
	for range 20000 {
		b := make([]byte, source.Intn(60))
		source.Read(b)
		if len(b) > 0 {
			b[0] %= 10
		}
		checkDefinition(t, b)
		checkDefinition(t, sealed(b))
	}
	for _, v := range []byte{0, 1, 5, 8, 127, 128, 255} {
		long := bytes.Repeat([]byte{v}, 1<<17)
		checkDefinition(t, long)
		checkDefinition(t, sealed(long))
		for kind := range byte(10) {
			checkDefinition(t, sealed(append([]byte{kind}, long[:65531]...)))
		}
	}
}

// P1: calls end without a panic for frames with lists of any length and any integers.
func TestAnyFrames(t *testing.T) {
	many := make([]Event, 100000)
	labels := make([]label.Label, 100000)
	for _, kind := range []int{math.MinInt, -1, 0, 1, 2, 3, 4, 5, 6, 7, 8, 9, math.MaxInt} {
		for _, n := range []int64{math.MinInt64, -1, 0, 1, maxNumber, maxTime, math.MaxInt64} {
			f := Frame{Head{kind, n, n}, n, n, n, n, n, n, n, many, label.Series{Name: "\xff", Labels: labels}, make([]byte, 1<<17)}
			checkRight(t, f, false)
			f.Events, f.Series, f.Data = nil, label.Series{}, nil
			checkRight(t, f, n == 0 && exactRight(f))
		}
	}
	f := Frame{Head: Head{Kind: FBatch}, Events: []Event{{1, 1, label.Series{Name: "m", Labels: labels}}}}
	checkRight(t, f, false)
	if !Same(f, copied(f)) {
		t.Error("a frame with many labels does not equal its copy")
	}
}
