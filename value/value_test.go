package value

import (
	"bytes"
	"encoding/binary"
	"errors"
	"fmt"
	"math"
	"math/rand"
	"slices"
	"strings"
	"testing"

	"tallyroom/api"
)

// Types that are no int64, bool or string, though they are made of them.
type (
	likeInt  int64
	likeBool bool
	likeText string
)

// String would make a text of it, if a value were told by its methods.
func (likeInt) String() string { return "7" }

// number, truth and text by short names, for tables.

func num(n int64) api.Value { return api.Value{Kind: 1, N: n} }

func tru(n int64) api.Value { return api.Value{Kind: 2, N: n} }

func txt(s string) api.Value { return api.Value{Kind: 3, S: s} }

// long is a text of n bytes.
func long(n int) string { return strings.Repeat("x", n) }

// numbers has 0 and what lies beside it, the ends, and both sides of where a byte more is needed.
func numbers() []int64 {
	l := []int64{0, 1, -1, 2, -2, 5, -5, 300, -300, math.MaxInt64, math.MaxInt64 - 1, math.MinInt64, math.MinInt64 + 1}
	for k := 6; k < 63; k += 7 {
		edge := int64(1) << k
		l = append(l, edge-1, edge, edge+1, -edge-1, -edge, -edge+1)
	}
	return l
}

// texts has none, short ones, such as are no UTF-8, and those at which the length's bytes or the
// limit change.
func texts() []string {
	l := []string{"", "a", "ab", "b", "A", "\x00", "a\x00", "\xff", "a\xffb", "é", "€", "\U0001F600", "true", "-5", "\x01\x05"}
	for _, n := range []int{126, 127, 128, 129, 4095, 4096} {
		l = append(l, long(n), strings.Repeat("\xff", n))
	}
	return l
}

// rights has values that are right.
func rights() []api.Value {
	l := []api.Value{tru(0), tru(1)}
	for _, n := range numbers() {
		l = append(l, num(n))
	}
	for _, s := range texts() {
		l = append(l, txt(s))
	}
	r := rand.New(rand.NewSource(4))
	for range 200 {
		l = append(l, num(int64(r.Uint64()>>r.Intn(64))), num(-int64(r.Uint64()>>(1+r.Intn(63)))), txt(string(noise(r.Intn(300), r.Int63()))))
	}
	return l
}

// wrongs has values that are not, by their reasons.
func wrongs() map[string][]api.Value {
	wrong := map[string][]api.Value{
		"a number with a text": {{Kind: 1, S: "a"}, {Kind: 1, N: 5, S: "\x00"}, {Kind: 1, N: -1, S: long(4096)}},
		"a truth with a text":  {{Kind: 2, S: "a"}, {Kind: 2, N: 1, S: "true"}},
		"neither 0 nor 1":      {tru(2), tru(-1), tru(256), tru(257), tru(1 << 32), tru(math.MaxInt64), tru(math.MinInt64)},
		"a text with a number": {{Kind: 3, N: 1}, {Kind: 3, N: -1, S: "a"}, {Kind: 3, N: math.MinInt64, S: "a"}},
		"a text too long":      {txt(long(4097)), txt(long(4098)), txt(long(1 << 16))},
	}
	for _, kind := range []int{0, -1, 4, 5, 255, 256, 257, 258, 259, 1<<32 + 1, math.MaxInt, math.MinInt, math.MinInt + 1} {
		wrong["a Kind that is none"] = append(wrong["a Kind that is none"],
			api.Value{Kind: kind}, api.Value{Kind: kind, N: 1}, api.Value{Kind: kind, N: -5}, api.Value{Kind: kind, S: "a"}, api.Value{Kind: kind, N: 1, S: "a"})
	}
	return wrong
}

// all has right ones and wrong ones.
func all() []api.Value {
	l := rights()
	for _, w := range wrongs() {
		l = append(l, w...)
	}
	return l
}

// others has anys that are no int64, bool or string.
func others() []any {
	n, b, s := int64(3), true, "3"
	var none *int64
	var nobody error
	return []any{
		nil, none, nobody,
		3, int8(3), int16(3), int32(3), uint(3), uint8(3), uint16(3), uint32(3), uint64(3), uintptr(3),
		float32(3), 3.0, math.NaN(), complex(3, 0), '3', byte(1),
		likeInt(3), likeBool(true), likeText("3"),
		&n, &b, &s, []byte("3"), []rune("3"), []int64{3}, []any{int64(3)}, [1]string{"3"}, map[string]int64{"3": 3}, map[string]any(nil),
		api.Value{Kind: 1, N: 3}, &api.Value{}, api.Attr{}, api.ErrType, struct{}{},
		func() int64 { return 3 }, make(chan int64), errors.New("3"),
	}
}

// noise has n bytes that are the same at each run.
func noise(n int, seed int64) []byte {
	b := make([]byte, n)
	rand.New(rand.NewSource(seed)).Read(b)
	return b
}

// The calls, by the document's words and the library.

func wantBytes(v api.Value) []byte {
	switch v.Kind {
	case 1:
		return binary.AppendVarint([]byte{1}, v.N)
	case 2:
		return []byte{2, byte(v.N)}
	}
	return append(binary.AppendUvarint([]byte{3}, uint64(len(v.S))), v.S...)
}

// wantVarint is a number with which b begins: varint's words, read byte by byte.
func wantVarint(b []byte) (uint64, int, api.Errno) {
	var n uint64
	for i, c := range b {
		low := uint64(c & 127)
		if i == 10 || i == 9 && low > 1 {
			return 0, 0, api.ErrForm
		}
		n += low << (7 * i)
		if c < 128 {
			if c == 0 && i > 0 {
				return 0, 0, api.ErrForm
			}
			return n, i + 1, api.OK
		}
	}
	return 0, 0, api.ErrShort
}

func wantGet(b []byte) (api.Value, int, api.Errno) {
	none := api.Value{}
	if len(b) == 0 {
		return none, 0, api.ErrShort
	}
	if b[0] < 1 || b[0] > 3 {
		return none, 0, api.ErrForm
	}
	rest := b[1:]
	if b[0] == 2 {
		switch {
		case len(rest) == 0:
			return none, 0, api.ErrShort
		case rest[0] > 1:
			return none, 0, api.ErrForm
		}
		return tru(int64(rest[0])), 2, api.OK
	}
	n, k, e := wantVarint(rest)
	switch {
	case e != api.OK:
		return none, 0, e
	case b[0] == 1 && n%2 == 0:
		return num(int64(n / 2)), 1 + k, api.OK
	case b[0] == 1:
		return num(-int64(n/2) - 1), 1 + k, api.OK
	case n > 4096:
		return none, 0, api.ErrForm
	case uint64(len(rest)-k) < n:
		return none, 0, api.ErrShort
	}
	return txt(string(rest[k : k+int(n)])), 1 + k + int(n), api.OK
}

// refused asks that b is answered by error e and nothing beside it, and stays as it is.
func refused(t *testing.T, b []byte, e api.Errno, why string) {
	t.Helper()
	keep := slices.Clone(b)
	v, n, e2 := Get(b)
	if e2 != e {
		t.Errorf("Get(%.20x) (%s): error %d, want %d", b, why, e2, e)
	}
	if v != (api.Value{}) || n != 0 {
		t.Errorf("R2: Get(%.20x) tells %v, %d beside error %d", b, v, n, e2)
	}
	if !bytes.Equal(b, keep) {
		t.Errorf("R4: Get changed %.20x to %.20x", keep, b)
	}
}

func TestP4_1RightKnown(t *testing.T) {
	for _, v := range rights() {
		if !Right(v) {
			t.Errorf("Right(%.30v): false", v)
		}
	}
	for why, l := range wrongs() {
		for _, v := range l {
			if Right(v) {
				t.Errorf("Right(%.30v) (%s): true", v, why)
			}
		}
	}
	if Right(api.Value{}) {
		t.Error("Right of the zero value: true")
	}
}

func TestP4_1AnyKnown(t *testing.T) {
	for _, x := range []struct {
		v    api.Value
		want any
	}{
		{num(0), int64(0)},
		{num(1), int64(1)},
		{num(-5), int64(-5)},
		{num(math.MaxInt64), int64(math.MaxInt64)},
		{num(math.MinInt64), int64(math.MinInt64)},
		{tru(0), false},
		{tru(1), true},
		{txt(""), ""},
		{txt("a\xffb"), "a\xffb"},
		{txt(long(4096)), long(4096)},
	} {
		if got := Any(x.v); got != x.want {
			t.Errorf("Any(%.30v): %T %.30v, want %T %.30v", x.v, got, got, x.want, x.want)
		}
	}
}

func TestP4_1AnyOfWrongIsNil(t *testing.T) {
	for why, l := range wrongs() {
		for _, v := range l {
			if got := Any(v); got != nil {
				t.Errorf("Any(%.30v) (%s): %T %.30v, want nil", v, why, got, got)
			}
		}
	}
}

func TestP4_1OfKnown(t *testing.T) {
	for _, x := range []struct {
		x    any
		want api.Value
	}{
		{int64(0), num(0)},
		{int64(-5), num(-5)},
		{int64(math.MaxInt64), num(math.MaxInt64)},
		{int64(math.MinInt64), num(math.MinInt64)},
		{false, tru(0)},
		{true, tru(1)},
		{"", txt("")},
		{"ab", txt("ab")},
		{"\xff", txt("\xff")},
		{long(4096), txt(long(4096))},
	} {
		if got, e := Of(x.x); got != x.want || e != api.OK {
			t.Errorf("Of(%.30v): %.30v, %d, want %.30v", x.x, got, e, x.want)
		}
	}
}

func TestP4_1OfWrong(t *testing.T) {
	for _, x := range append(others(), long(4097), long(4098), long(1<<20)) {
		got, e := Of(x)
		if e != api.ErrType {
			t.Errorf("Of(%T): error %d", x, e)
		}
		if got != (api.Value{}) {
			t.Errorf("R2: Of(%T) tells %.30v beside an error", x, got)
		}
	}
}

func TestP4_1TextKnown(t *testing.T) {
	for _, x := range []struct {
		x    any
		want string
	}{
		{int64(0), "0"},
		{int64(5), "5"},
		{int64(-5), "-5"},
		{int64(-10), "-10"},
		{int64(1000000), "1000000"},
		{int64(math.MaxInt64), "9223372036854775807"},
		{int64(math.MinInt64), "-9223372036854775808"},
		{true, "true"},
		{false, "false"},
		{"", ""},
		{"ab", "ab"},
		{"-5", "-5"},
		{"a\xffb\n", "a\xffb\n"},
	} {
		if got := Text(x.x); got != x.want {
			t.Errorf("Text(%v): %q, want %q", x.x, got, x.want)
		}
	}
	for _, n := range numbers() {
		if got, want := Text(n), fmt.Sprint(n); got != want {
			t.Errorf("Text(%d): %q, want %q", n, got, want)
		}
	}
}

// A string is itself as a text, though one of more than 4096 bytes is no value.
func TestP4_1TextOfLong(t *testing.T) {
	for _, n := range []int{4096, 4097, 1 << 20} {
		if got := Text(long(n)); got != long(n) {
			t.Errorf("Text of %d bytes: %d bytes", n, len(got))
		}
	}
}

func TestP4_1TextOfOthers(t *testing.T) {
	for _, x := range others() {
		if got := Text(x); got != "" {
			t.Errorf("Text(%T): %q", x, got)
		}
	}
}

func TestP4_1IntKnown(t *testing.T) {
	for _, n := range numbers() {
		if got, ok := Int(n); got != n || !ok {
			t.Errorf("Int(%d): %d, %v", n, got, ok)
		}
	}
	if got, ok := Int(false); got != 0 || !ok {
		t.Errorf("Int(false): %d, %v", got, ok)
	}
	if got, ok := Int(true); got != 1 || !ok {
		t.Errorf("Int(true): %d, %v", got, ok)
	}
}

func TestP4_1IntOfOthers(t *testing.T) {
	for _, x := range append(others(), "", "3", "-5", "true", long(4097)) {
		if got, ok := Int(x); got != 0 || ok {
			t.Errorf("Int(%T %.10v): %d, %v", x, x, got, ok)
		}
	}
}

func TestP4_2PutKnown(t *testing.T) {
	for _, x := range []struct {
		v    api.Value
		want []byte
	}{
		{num(0), []byte{1, 0}},
		{num(-1), []byte{1, 1}},
		{num(1), []byte{1, 2}},
		{num(-3), []byte{1, 5}},
		{num(63), []byte{1, 126}},
		{num(-64), []byte{1, 127}},
		{num(64), []byte{1, 128, 1}},
		{num(150), []byte{1, 172, 2}},
		{num(math.MaxInt64), []byte{1, 254, 255, 255, 255, 255, 255, 255, 255, 255, 1}},
		{num(math.MinInt64), []byte{1, 255, 255, 255, 255, 255, 255, 255, 255, 255, 1}},
		{tru(0), []byte{2, 0}},
		{tru(1), []byte{2, 1}},
		{txt(""), []byte{3, 0}},
		{txt("ab"), []byte{3, 2, 'a', 'b'}},
		{txt("\xff\x00"), []byte{3, 2, 255, 0}},
		{txt(long(127)), append([]byte{3, 127}, long(127)...)},
		{txt(long(128)), append([]byte{3, 128, 1}, long(128)...)},
		{txt(long(4096)), append([]byte{3, 128, 32}, long(4096)...)},
	} {
		if got := Put(nil, x.v); !bytes.Equal(got, x.want) {
			t.Errorf("Put(nil, %.30v): %.20x, want %.20x", x.v, got, x.want)
		}
		if v, n, e := Get(x.want); v != x.v || n != len(x.want) || e != api.OK {
			t.Errorf("Get(%.20x): %.30v, %d, %d, want %.30v", x.want, v, n, e, x.v)
		}
	}
}

func TestP4_2PutBehindOthers(t *testing.T) {
	for _, b := range [][]byte{nil, {}, {0}, {3, 2, 'a'}, noise(100, 1)} {
		for _, v := range rights() {
			want := append(slices.Clone(b), wantBytes(v)...)
			if got := Put(b, v); !bytes.Equal(got, want) {
				t.Errorf("Put(%.20x, %.30v): %.20x, want %.20x", b, v, got, want)
			}
		}
	}
}

func TestP4_2PutWrongIsNothing(t *testing.T) {
	for _, b := range [][]byte{nil, {}, {0}, {3, 2, 'a'}, noise(100, 1)} {
		for why, l := range wrongs() {
			for _, v := range l {
				if got := Put(b, v); !bytes.Equal(got, b) {
					t.Errorf("Put(%.20x, %.30v) (%s): %.20x", b, v, why, got)
				}
			}
		}
	}
}

// A list with room to spare stays as it is, behind its end too, and no answer lies in another one:
// of right values and of a wrong one, which gives b alone.
func TestP4_2PutIsNewList(t *testing.T) {
	for _, v := range []api.Value{num(-3), tru(1), txt("ab"), txt(""), tru(2)} {
		room := []byte{7, 8, 9, 99, 99, 99, 99, 99}
		keep := slices.Clone(room)
		first := Put(room[:3], v)
		second := Put(room[:3], v)
		if !bytes.Equal(room, keep) {
			t.Errorf("R4: Put wrote behind what was handed in: %v", room)
		}
		want := slices.Clone(second)
		for i := range first {
			first[i] = ^first[i]
		}
		first = append(first, 1, 2, 3)
		if !bytes.Equal(room, keep) || !bytes.Equal(second, want) {
			t.Errorf("R4: what Put tells (%v) shares memory", first)
		}
		third := Put(second, num(1))
		fourth := Put(second, num(2))
		if bytes.Equal(third, fourth) {
			t.Errorf("R4: two lists lie in what one has to spare: %v, %v", third, fourth)
		}
	}
}

func TestP4_2GetKnownErrors(t *testing.T) {
	nines := bytes.Repeat([]byte{255}, 9)
	for _, x := range []struct {
		why string
		b   []byte
		e   api.Errno
	}{
		{"no byte", nil, api.ErrShort},
		{"no byte", []byte{}, api.ErrShort},
		{"Kind 0", []byte{0}, api.ErrForm},
		{"Kind 0", []byte{0, 0}, api.ErrForm},
		{"Kind 4", []byte{4}, api.ErrForm},
		{"Kind 4", []byte{4, 1, 'a'}, api.ErrForm},
		{"Kind 129", []byte{129, 0, 5}, api.ErrForm},
		{"Kind 255", []byte{255}, api.ErrForm},
		{"a number without bytes", []byte{1}, api.ErrShort},
		{"a number that ends", []byte{1, 128}, api.ErrShort},
		{"a number that ends", append([]byte{1}, nines...), api.ErrShort},
		{"a number's last byte is 0", []byte{1, 128, 0}, api.ErrForm},
		{"a number's last byte is 0", []byte{1, 255, 128, 0, 1}, api.ErrForm},
		{"a number above 2^64 - 1", append(append([]byte{1}, nines...), 2), api.ErrForm},
		{"a number of eleven bytes", append(append([]byte{1}, nines...), 129, 1), api.ErrForm},
		{"a truth without bytes", []byte{2}, api.ErrShort},
		{"a truth 2", []byte{2, 2}, api.ErrForm},
		{"a truth 128", []byte{2, 128}, api.ErrForm},
		{"a truth 129", []byte{2, 129, 0}, api.ErrForm},
		{"a truth 255", []byte{2, 255, 1}, api.ErrForm},
		{"a text without bytes", []byte{3}, api.ErrShort},
		{"a text whose length ends", []byte{3, 128}, api.ErrShort},
		{"a text whose length ends", []byte{3, 129}, api.ErrShort},
		{"a text whose length's last byte is 0", []byte{3, 129, 0, 'a'}, api.ErrForm},
		{"a text whose length is above 2^64 - 1", append(append([]byte{3}, nines...), 2), api.ErrForm},
		{"a text whose length has eleven bytes", append(append([]byte{3}, nines...), 129, 1), api.ErrForm},
		{"a text without its bytes", []byte{3, 1}, api.ErrShort},
		{"a text that ends", []byte{3, 2, 'a'}, api.ErrShort},
		{"4096 bytes, none is there", []byte{3, 128, 32}, api.ErrShort},
		{"4096 bytes, one isn't there", append([]byte{3, 128, 32}, long(4095)...), api.ErrShort},
		{"4097 bytes, none is there", []byte{3, 129, 32}, api.ErrForm},
		{"4097 bytes, one isn't there", append([]byte{3, 129, 32}, long(4096)...), api.ErrForm},
		{"4097 bytes, all are there", append([]byte{3, 129, 32}, long(4097)...), api.ErrForm},
		{"4097 bytes, and more behind", append([]byte{3, 129, 32}, long(5000)...), api.ErrForm},
		{"2^31 bytes", []byte{3, 128, 128, 128, 128, 8, 'a'}, api.ErrForm},
		{"2^32 + 1 bytes", []byte{3, 129, 128, 128, 128, 16, 'a'}, api.ErrForm},
		{"2^63 bytes", []byte{3, 128, 128, 128, 128, 128, 128, 128, 128, 128, 1, 'a'}, api.ErrForm},
		{"2^64 - 1 bytes", append(append([]byte{3}, nines...), 1, 'a'), api.ErrForm},
	} {
		refused(t, x.b, x.e, x.why)
	}
}

func TestP4_2GetEachKind(t *testing.T) {
	for kind := range 256 {
		if kind >= 1 && kind <= 3 {
			continue
		}
		for _, rest := range []string{"", "\x00", "\x01", "\x01a", "\xff", "\x80\x00"} {
			refused(t, append([]byte{byte(kind)}, rest...), api.ErrForm, "a Kind that is none")
		}
	}
	for n := range 256 {
		b := []byte{2, byte(n), 7}
		if n > 1 {
			refused(t, b, api.ErrForm, "a truth that is neither 0 nor 1")
			continue
		}
		if v, k, e := Get(b); v != tru(int64(n)) || k != 2 || e != api.OK {
			t.Errorf("Get(%v): %v, %d, %d", b, v, k, e)
		}
	}
}

func TestP4_2GetCutAnywhere(t *testing.T) {
	for _, v := range rights() {
		b := wantBytes(v)
		for k := range len(b) {
			refused(t, b[:k:k], api.ErrShort, "bytes that end within a value")
			if t.Failed() {
				return
			}
		}
	}
}

// Bytes that lie behind the end of what is handed in belong to nobody.
func TestP4_2GetAsksNoBytesBehindTheEnd(t *testing.T) {
	room := []byte{3, 3, 'a', 'b', 'c'}
	for k := range len(room) {
		refused(t, room[:k], api.ErrShort, "the bytes are there, but not handed in")
	}
}

func TestP4_2GetNoise(t *testing.T) {
	r := rand.New(rand.NewSource(5))
	for range 50000 {
		b := noise(r.Intn(24), r.Int63())
		if len(b) > 0 {
			b[0] %= 5
		}
		if len(b) > 1 && r.Intn(2) == 0 {
			b[1] %= 20
		}
		sameAsWanted(t, b)
	}
}

// sameAsWanted asks that Get answers b as the document's words do.
func sameAsWanted(t *testing.T, b []byte) {
	t.Helper()
	keep := slices.Clone(b)
	v, n, e := Get(b)
	v2, n2, e2 := wantGet(b)
	if v != v2 || n != n2 || e != e2 {
		t.Fatalf("Get(%x): %v, %d, %d, want %v, %d, %d", b, v, n, e, v2, n2, e2)
	}
	if !bytes.Equal(b, keep) {
		t.Fatalf("R4: Get changed %x to %x", keep, b)
	}
	if e == api.OK && (!Right(v) || !bytes.Equal(Put(nil, v), b[:n])) {
		t.Fatalf("Put of what Get(%x) tells: %x", b, Put(nil, v))
	}
}

// A text that is told isn't changed by what becomes of the bytes.
func TestP4_2GetSharesNothing(t *testing.T) {
	b := []byte{3, 2, 'a', 'b'}
	v, _, e := Get(b)
	b[2], b[3] = 'y', 'z'
	if v != txt("ab") || e != api.OK {
		t.Errorf("R4: what Get tells lies in what was handed in: %v, %d", v, e)
	}
}

// Each one is below the next.
func TestP4_3CompareKnown(t *testing.T) {
	rising := []api.Value{
		{Kind: math.MinInt, N: 9, S: "z"}, {Kind: -1}, {Kind: -1, S: "a"}, {Kind: -1, N: 1}, {},
		{N: 1, S: "a"}, {N: 1, S: "b"}, {N: 2},
		num(math.MinInt64), {Kind: 1, N: math.MinInt64, S: "a"}, num(math.MinInt64 + 1), num(-300), num(-2), num(-1),
		num(0), {Kind: 1, S: "a"}, num(1), num(2), num(10), num(300), num(math.MaxInt64 - 1), num(math.MaxInt64), {Kind: 1, N: math.MaxInt64, S: "z"},
		tru(math.MinInt64), tru(-1), tru(0), {Kind: 2, S: "z"}, tru(1), tru(2),
		{Kind: 3, N: -1, S: "z"},
		txt(""), txt("\x00"), txt("\x00\x00"), txt("10"), txt("9"), txt("A"), txt("Z"), txt("a"), txt("a\x00"), txt("aa"), txt("ab"), txt("b"),
		txt(long(4095)), txt(long(4096)), txt(long(4097)), txt("é"), txt("\uFFFD"), txt("\U0001F600"), txt("\xff"),
		{Kind: 3, N: 1}, {Kind: 3, N: 1, S: "a"},
		{Kind: 4}, {Kind: math.MaxInt, N: math.MinInt64},
	}
	for i, a := range rising {
		for j, b := range rising {
			want := 0
			if i < j {
				want = -1
			} else if i > j {
				want = 1
			}
			if got := Compare(a, b); got != want {
				t.Errorf("Compare(%.30v, %.30v): %d, want %d", a, b, got, want)
			}
		}
	}
}

// By the order's words of right ones, field by field of all.
func TestP4_3CompareAll(t *testing.T) {
	l := all()
	for _, a := range l {
		for _, b := range l {
			want := 1
			if a == b {
				want = 0
			} else if a.Kind < b.Kind || a.Kind == b.Kind && (a.N < b.N || a.N == b.N && a.S < b.S) {
				want = -1
			}
			if got := Compare(a, b); got != want {
				t.Fatalf("Compare(%.30v, %.30v): %d, want %d", a, b, got, want)
			}
		}
	}
}

func TestP4_4PutIsGot(t *testing.T) {
	behinds := [][]byte{nil, {0}, {1, 128}, {255, 255}, {'a'}, noise(50, 2)}
	for _, v := range rights() {
		b := Put(nil, v)
		for _, behind := range behinds {
			all := append(slices.Clone(b), behind...)
			if got, n, e := Get(all); got != v || n != len(b) || e != api.OK {
				t.Errorf("Get(Put(%.30v) and %x): %.30v, %d, %d", v, behind, got, n, e)
			}
		}
	}
}

// Many of them, one behind the other.
func TestP4_4PutIsGotInARow(t *testing.T) {
	var b []byte
	for _, v := range rights() {
		b = Put(b, v)
	}
	for _, v := range rights() {
		got, n, e := Get(b)
		if got != v || e != api.OK {
			t.Fatalf("Get in a row: %.30v, %d, %d, want %.30v", got, n, e, v)
		}
		b = b[n:]
	}
	if len(b) != 0 {
		t.Errorf("%d bytes are left", len(b))
	}
}

func TestP4_4AsAnyAndBack(t *testing.T) {
	for _, v := range rights() {
		if got, e := Of(Any(v)); got != v || e != api.OK {
			t.Errorf("Of(Any(%.30v)): %.30v, %d", v, got, e)
		}
	}
	for _, x := range []any{int64(0), int64(-5), int64(math.MinInt64), int64(math.MaxInt64), true, false, "", "ab", "\xff", long(4096)} {
		v, e := Of(x)
		if got := Any(v); got != x || e != api.OK {
			t.Errorf("Any(Of(%.30v)): %.30v, %d", x, got, e)
		}
	}
}

// What isn't right is nothing as any, and no value back.
func TestP4_4WrongIsNotBack(t *testing.T) {
	for why, l := range wrongs() {
		for _, v := range l {
			if got, e := Of(Any(v)); got != (api.Value{}) || e != api.ErrType {
				t.Errorf("Of(Any(%.30v)) (%s): %.30v, %d", v, why, got, e)
			}
		}
	}
}

// R6: a call answers the same whatever was called between.
func TestR6NothingIsKept(t *testing.T) {
	v := txt("123")
	want := Put(nil, v)
	for _, w := range all() {
		Get(Put(want, w))
		Of(Any(w))
		Text(Any(w))
		Int(Any(w))
		Compare(v, w)
		if got := Put(nil, v); !bytes.Equal(got, want) {
			t.Fatalf("R6: Put: %x, want %x", got, want)
		}
		if got, n, e := Get(want); got != v || n != len(want) || e != api.OK {
			t.Fatalf("R6: Get: %v, %d, %d", got, n, e)
		}
	}
}

func FuzzGet(f *testing.F) {
	for _, v := range rights()[:60] {
		f.Add(wantBytes(v))
	}
	f.Add([]byte{3, 129, 32})
	f.Fuzz(sameAsWanted)
}

func FuzzValue(f *testing.F) {
	for _, v := range all() {
		f.Add(v.Kind, v.N, v.S)
	}
	f.Fuzz(func(t *testing.T, kind int, n int64, s string) {
		v := api.Value{Kind: kind, N: n, S: s}
		right := kind == 1 && s == "" || kind == 2 && s == "" && (n == 0 || n == 1) || kind == 3 && n == 0 && len(s) <= 4096
		if Right(v) != right {
			t.Fatalf("Right(%v): %v", v, !right)
		}
		back, e := Of(Any(v))
		got, size, e2 := Get(Put(nil, v))
		if right && (back != v || e != api.OK || got != v || size != len(wantBytes(v)) || e2 != api.OK) {
			t.Errorf("%v: %v, %d, %v, %d, %d", v, back, e, got, size, e2)
		}
		if !right && (e != api.ErrType || e2 != api.ErrShort) {
			t.Errorf("%v: %v, %d, %v, %d, %d", v, back, e, got, size, e2)
		}
		if Compare(v, v) != 0 {
			t.Errorf("Compare(%v, itself): %d", v, Compare(v, v))
		}
	})
}
