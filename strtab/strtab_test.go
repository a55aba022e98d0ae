package strtab

import (
	"bytes"
	"encoding/binary"
	"math"
	"math/rand"
	"slices"
	"strconv"
	"strings"
	"testing"

	"tallyroom/api"
)

// long is a text of n bytes.
func long(n int) string { return strings.Repeat("x", n) }

// noise has n bytes that are the same at each run.
func noise(n int, seed int64) []byte {
	b := make([]byte, n)
	rand.New(rand.NewSource(seed)).Read(b)
	return b
}

// texts has none, short ones, such as are no UTF-8, such as look like one another, and those at
// which the length's bytes or the limit change; no two alike.
func texts() []string {
	l := []string{"a", "b", "", "ab", "A", "a ", " a", "\x00", "\x00\x00", "a\x00", "\xff", "a\xffb", "é", "e\u0301", "€", "\uFFFD", "\U0001F600", "0", "00", "1"}
	for _, n := range []int{126, 127, 128, 129, 4095, 4096} {
		l = append(l, long(n), strings.Repeat("\xff", n))
	}
	// Alike but for their last byte, or their first one.
	return append(l, long(4095)+"y", "y"+long(4095))
}

// many has n texts, no two alike.
func many(n int) []string {
	l := make([]string, n)
	for i := range l {
		l[i] = strconv.Itoa(i)
	}
	return l
}

// lists has lists of texts, no two of a list alike: none, one, several in several orders, all that
// a table may have.
func lists() map[string][]string {
	backward := texts()
	slices.Reverse(backward)
	out := map[string][]string{
		"none":            nil,
		"the empty one":   {""},
		"one":             {"a"},
		"two":             {"a", "b"},
		"two, turned":     {"b", "a"},
		"the empty first": {"", "a"},
		"the empty last":  {"a", ""},
		"all kinds":       texts(),
		"all, backward":   backward,
		"127":             many(127),
		"128":             many(128),
		"4095":            many(4095),
		"4096":            many(4096),
	}
	r := rand.New(rand.NewSource(1))
	for i := range 5 {
		l := texts()
		r.Shuffle(len(l), func(i, j int) { l[i], l[j] = l[j], l[i] })
		out["shuffled "+strconv.Itoa(i)] = l
	}
	return out
}

// The calls, by the document's words and the library.

func wantBytes(l []string) []byte {
	b := binary.AppendUvarint(nil, uint64(len(l)))
	for _, s := range l {
		b = append(binary.AppendUvarint(b, uint64(len(s))), s...)
	}
	return b
}

// wantPut is what Put answers where a table has the texts of l, and what it has then.
func wantPut(l []string, s string) ([]string, int, api.Errno) {
	if len(s) > 4096 {
		return l, 0, api.ErrLong
	}
	if i := slices.Index(l, s); i >= 0 {
		return l, i, api.OK
	}
	if len(l) == 4096 {
		return l, 0, api.ErrFull
	}
	return append(l, s), len(l), api.OK
}

// wantVarint is a number with which b begins: varint's words, read byte by byte.
func wantVarint(b []byte) (uint64, int, api.Errno) {
	var n uint64
	for i, c := range b {
		low := uint64(c & 127)
		if i == 10 || i == 9 && low > 1 {
			return 0, 0, api.ErrForm
		}
		n += low << (7 * i)
		if c < 128 {
			if c == 0 && i > 0 {
				return 0, 0, api.ErrForm
			}
			return n, i + 1, api.OK
		}
	}
	return 0, 0, api.ErrShort
}

func wantRead(b []byte) ([]string, int, api.Errno) {
	count, at, e := wantVarint(b)
	if e != api.OK {
		return nil, 0, e
	}
	if count > 4096 {
		return nil, 0, api.ErrForm
	}
	var l []string
	for range count {
		size, n, e := wantVarint(b[at:])
		at += n
		switch {
		case e != api.OK:
			return nil, 0, e
		case size > 4096:
			return nil, 0, api.ErrForm
		case uint64(len(b)-at) < size:
			return nil, 0, api.ErrShort
		}
		s := string(b[at : at+int(size)])
		if slices.Contains(l, s) {
			return nil, 0, api.ErrForm
		}
		l = append(l, s)
		at += int(size)
	}
	return l, at, api.OK
}

// made is a table into which l was put.
func made(t *testing.T, l []string) *Table {
	t.Helper()
	x := New()
	for i, s := range l {
		if n, e := x.Put(s); n != i || e != api.OK {
			t.Fatalf("Put(%.20q): %d, %d, want %d", s, n, e, i)
		}
	}
	return x
}

// has asks that a table has the texts of l, by all its calls that change nothing.
func has(t *testing.T, x *Table, l []string) {
	t.Helper()
	if got := x.Len(); got != len(l) {
		t.Fatalf("Len: %d, want %d", got, len(l))
	}
	for i, want := range l {
		if s, ok := x.At(i); s != want || !ok {
			t.Fatalf("At(%d): %.20q, %v, want %.20q", i, s, ok, want)
		}
	}
	for _, i := range []int{-1, -2, -len(l), -len(l) - 1, len(l), len(l) + 1, 2*len(l) + 1, 4096, 1 << 32, -1 << 32, math.MaxInt, math.MinInt} {
		if i >= 0 && i < len(l) || i == 0 {
			continue
		}
		if s, ok := x.At(i); s != "" || ok {
			t.Fatalf("At(%d) of %d texts: %.20q, %v", i, len(l), s, ok)
		}
	}
	if got, want := x.Bytes(), wantBytes(l); !bytes.Equal(got, want) {
		t.Fatalf("Bytes: %.20x, want %.20x", got, want)
	}
}

// finds asks that each text of l that is put once more has the number that it had.
func finds(t *testing.T, x *Table, l []string) {
	t.Helper()
	for i, s := range l {
		if n, e := x.Put(s); n != i || e != api.OK {
			t.Fatalf("Put(%.20q), which is there: %d, %d, want %d", s, n, e, i)
		}
	}
}

// refused asks that b is answered by error e and nothing beside it, and stays as it is.
func refused(t *testing.T, b []byte, e api.Errno, why string) {
	t.Helper()
	keep := slices.Clone(b)
	x, n, e2 := Read(b)
	if e2 != e {
		t.Errorf("Read(%.20x) (%s): error %d, want %d", b, why, e2, e)
	}
	if x != nil || n != 0 {
		t.Errorf("R2: Read(%.20x) (%s) tells a table (%v), %d beside error %d", b, why, x != nil, n, e2)
	}
	if !bytes.Equal(b, keep) {
		t.Errorf("R4: Read changed %.20x to %.20x", keep, b)
	}
}

func TestP5_1PutOnceAndAgain(t *testing.T) {
	for name, l := range lists() {
		t.Run(name, func(t *testing.T) {
			x := made(t, l)
			has(t, x, l)
			finds(t, x, l)
			has(t, x, l)
		})
	}
}

// Some of the texts again, between new ones.
func TestP5_1PutBetween(t *testing.T) {
	x := New()
	for i, y := range []struct {
		s    string
		want int
	}{{"b", 0}, {"b", 0}, {"a", 1}, {"b", 0}, {"a", 1}, {"", 2}, {"c", 3}, {"", 2}, {"b", 0}, {"B", 4}, {"c", 3}, {"a\x00", 5}, {"a", 1}, {"a\x00", 5}} {
		if n, e := x.Put(y.s); n != y.want || e != api.OK {
			t.Errorf("Put %d (%q): %d, %d, want %d", i, y.s, n, e, y.want)
		}
	}
	has(t, x, []string{"b", "a", "", "c", "B", "a\x00"})
}

func TestP5_1Example(t *testing.T) {
	want := []byte{2, 1, 'a', 1, 'b'}
	if got := made(t, []string{"a", "b"}).Bytes(); !bytes.Equal(got, want) {
		t.Errorf("Bytes of a and b: %v, want %v", got, want)
	}
}

func TestP5_1BytesKnown(t *testing.T) {
	for _, y := range []struct {
		l    []string
		want []byte
	}{
		{nil, []byte{0}},
		{[]string{""}, []byte{1, 0}},
		{[]string{"b", "a"}, []byte{2, 1, 'b', 1, 'a'}},
		{[]string{"ab", "", "\xff"}, []byte{3, 2, 'a', 'b', 0, 1, 255}},
		{[]string{long(127)}, append([]byte{1, 127}, long(127)...)},
		{[]string{long(128)}, append([]byte{1, 128, 1}, long(128)...)},
		{[]string{long(4096)}, append([]byte{1, 128, 32}, long(4096)...)},
	} {
		if got := made(t, y.l).Bytes(); !bytes.Equal(got, y.want) {
			t.Errorf("Bytes of %.20q: %.20x, want %.20x", y.l, got, y.want)
		}
	}
	if got := made(t, many(4096)).Bytes()[:6]; !bytes.Equal(got, []byte{128, 32, 1, '0', 1, '1'}) {
		t.Errorf("Bytes of 4096 texts begin with %v", got)
	}
}

func TestP5_1NoText(t *testing.T) {
	has(t, New(), nil)
	if s, ok := New().At(0); s != "" || ok {
		t.Errorf("At(0) of no text: %q, %v", s, ok)
	}
	// One that nobody made by New has none either, and takes them.
	x := new(Table)
	has(t, x, nil)
	for i, s := range texts() {
		if n, e := x.Put(s); n != i || e != api.OK {
			t.Errorf("Put(%.20q): %d, %d, want %d", s, n, e, i)
		}
	}
	has(t, x, texts())
}

// The text of no byte is there just if it was put.
func TestP5_1EmptyText(t *testing.T) {
	x := made(t, []string{"a"})
	if s, ok := x.At(1); s != "" || ok {
		t.Errorf("At(1): %q, %v", s, ok)
	}
	if n, e := x.Put(""); n != 1 || e != api.OK {
		t.Errorf("Put of no byte: %d, %d", n, e)
	}
	if s, ok := x.At(1); s != "" || !ok {
		t.Errorf("At(1) of no byte: %q, %v", s, ok)
	}
	has(t, x, []string{"a", ""})
}

func TestP5_1PutLong(t *testing.T) {
	l := []string{"a", long(4096)}
	for _, n := range []int{4097, 4098, 8192, 1 << 16, 1 << 20} {
		x := made(t, l)
		if got, e := x.Put(long(n)); got != 0 || e != api.ErrLong {
			t.Errorf("Put of %d bytes: %d, %d", n, got, e)
		}
		has(t, x, l)
		if got, e := x.Put("b"); got != 2 || e != api.OK {
			t.Errorf("Put behind an error: %d, %d", got, e)
		}
	}
}

// Bytes are counted, not runes.
func TestP5_1PutLongInBytes(t *testing.T) {
	x := New()
	if n, e := x.Put(strings.Repeat("é", 2048) + "x"); n != 0 || e != api.ErrLong {
		t.Errorf("Put of 4097 bytes: %d, %d", n, e)
	}
	has(t, x, nil)
	if n, e := x.Put(strings.Repeat("é", 2048)); n != 0 || e != api.OK {
		t.Errorf("Put of 4096 bytes: %d, %d", n, e)
	}
}

func TestP5_1PutFull(t *testing.T) {
	l := many(4096)
	x := made(t, l[:4095])
	if n, e := x.Put("4095"); n != 4095 || e != api.OK {
		t.Errorf("Put of the last text that fits: %d, %d", n, e)
	}
	for _, s := range []string{"x", "", "4096", long(4096), "\xff", "00"} {
		if n, e := x.Put(s); n != 0 || e != api.ErrFull {
			t.Errorf("Put(%.20q) into a full table: %d, %d", s, n, e)
		}
	}
	has(t, x, l)
	// Who is there is found ahead of there being no room, who is too long is refused ahead of it.
	finds(t, x, l)
	if n, e := x.Put(long(4097)); n != 0 || e != api.ErrLong {
		t.Errorf("Put of 4097 bytes into a full table: %d, %d", n, e)
	}
	has(t, x, l)
}

func TestP5_1OfNil(t *testing.T) {
	var x *Table
	for _, s := range []string{"", "a", long(4096), long(4097)} {
		if n, e := x.Put(s); n != 0 || e != api.ErrNil {
			t.Errorf("Put(%.20q) into nil: %d, %d", s, n, e)
		}
	}
	for _, i := range []int{0, 1, -1, 4095, 4096, math.MaxInt, math.MinInt} {
		if s, ok := x.At(i); s != "" || ok {
			t.Errorf("At(%d) of nil: %q, %v", i, s, ok)
		}
	}
	if n := x.Len(); n != 0 {
		t.Errorf("Len of nil: %d", n)
	}
	if b := x.Bytes(); len(b) != 0 {
		t.Errorf("Bytes of nil: %v", b)
	}
}

// Whatever is put in whatever order, a table answers as a list that is gone through does.
func TestP5_1PutAsAList(t *testing.T) {
	r := rand.New(rand.NewSource(2))
	pool := append(texts(), long(4097), strings.Repeat("\xff", 5000))
	for range 300 {
		x := New()
		var l []string
		for range r.Intn(60) {
			s := pool[r.Intn(len(pool))]
			if r.Intn(3) == 0 {
				s = string(noise(r.Intn(3), r.Int63()))
			}
			var want int
			var wantE api.Errno
			l, want, wantE = wantPut(l, s)
			if n, e := x.Put(s); n != want || e != wantE {
				t.Fatalf("Put(%.20q) where %d are there: %d, %d, want %d, %d", s, len(l), n, e, want, wantE)
			}
		}
		has(t, x, l)
	}
}

// Tables have nothing of one another.
func TestP5_1TablesAreApart(t *testing.T) {
	x, y := New(), New()
	if x == y {
		t.Fatal("R4: New tells one table twice")
	}
	x.Put("a")
	has(t, y, nil)
	y.Put("b")
	has(t, x, []string{"a"})
	has(t, y, []string{"b"})
	if n, e := y.Put("a"); n != 1 || e != api.OK {
		t.Errorf("Put into another table: %d, %d", n, e)
	}
}

// R4: what Bytes tells is the caller's, in what it has to spare too.
func TestP5_1BytesAreTheCallers(t *testing.T) {
	l := []string{"abc", "", "de"}
	x := made(t, l)
	first := x.Bytes()
	second := x.Bytes()
	for i := range first {
		first[i] = ^first[i]
	}
	_ = append(first, 1, 2, 3)
	if !bytes.Equal(second, wantBytes(l)) {
		t.Errorf("R4: what Bytes tells shares memory: %v", second)
	}
	has(t, x, l)
	x.Put("f")
	if !bytes.Equal(second, wantBytes(l)) {
		t.Errorf("R4: Put changed what Bytes told: %v", second)
	}
}

func TestP5_2ReadKnown(t *testing.T) {
	for _, y := range []struct {
		b    []byte
		want []string
		n    int
	}{
		{[]byte{0}, nil, 1},
		{[]byte{0, 1, 'a'}, nil, 1},
		{[]byte{1, 0}, []string{""}, 2},
		{[]byte{1, 0, 0}, []string{""}, 2},
		{[]byte{2, 1, 'a', 1, 'b'}, []string{"a", "b"}, 5},
		{[]byte{2, 1, 'b', 1, 'a'}, []string{"b", "a"}, 5},
		{[]byte{2, 0, 1, 'z', 9}, []string{"", "z"}, 4},
		{[]byte{1, 1, 'a', 1, 'a'}, []string{"a"}, 3},
		{[]byte{1, 1, 'a', 255, 255}, []string{"a"}, 3},
		{[]byte{3, 1, 255, 2, 255, 255, 1, 0}, []string{"\xff", "\xff\xff", "\x00"}, 8},
	} {
		keep := slices.Clone(y.b)
		x, n, e := Read(y.b)
		if x == nil || n != y.n || e != api.OK {
			t.Fatalf("Read(%v): a table (%v), %d, %d", y.b, x != nil, n, e)
		}
		has(t, x, y.want)
		if !bytes.Equal(y.b, keep) {
			t.Errorf("R4: Read changed %v to %v", keep, y.b)
		}
	}
}

// varints has bytes that are no number, with their errors, and what they are.
var varints = []struct {
	why string
	b   string
	e   api.Errno
}{
	{"no byte", "", api.ErrShort},
	{"it ends", "\x80", api.ErrShort},
	{"it ends", "\x81", api.ErrShort},
	{"it ends", "\xff\xff\xff\xff\xff\xff\xff\xff\xff", api.ErrShort},
	{"it ends at ten bytes", "\x80\x80\x80\x80\x80\x80\x80\x80\x80\x81", api.ErrShort},
	{"its last byte is 0", "\x80\x00", api.ErrForm},
	{"its last byte is 0", "\x81\x00a", api.ErrForm},
	{"its last byte is 0", "\xff\x80\x00\x01", api.ErrForm},
	{"above 2^64 - 1", "\xff\xff\xff\xff\xff\xff\xff\xff\xff\x02", api.ErrForm},
	{"above 2^64 - 1, and it ends", "\x80\x80\x80\x80\x80\x80\x80\x80\x80\x82", api.ErrForm},
	{"eleven bytes", "\x80\x80\x80\x80\x80\x80\x80\x80\x80\x81\x01", api.ErrForm},
}

// greats has numbers above 4096, whole ones.
var greats = []struct {
	why string
	b   string
}{
	{"4097", "\x81\x20"},
	{"4098", "\x82\x20"},
	{"8192", "\x80\x40"},
	{"2^14", "\x80\x80\x01"},
	{"2^31", "\x80\x80\x80\x80\x08"},
	{"2^32", "\x80\x80\x80\x80\x10"},
	{"2^32 + 1", "\x81\x80\x80\x80\x10"},
	{"2^63", "\x80\x80\x80\x80\x80\x80\x80\x80\x80\x01"},
	{"2^63 + 1", "\x81\x80\x80\x80\x80\x80\x80\x80\x80\x01"},
	{"2^64 - 1", "\xff\xff\xff\xff\xff\xff\xff\xff\xff\x01"},
}

func TestP5_2ReadCountErrors(t *testing.T) {
	refused(t, nil, api.ErrShort, "nil")
	refused(t, []byte{}, api.ErrShort, "no byte")
	for _, y := range varints {
		refused(t, []byte(y.b), y.e, "the count: "+y.why)
	}
	for _, y := range greats {
		for _, behind := range []string{"", "\x00", "\x01a", "\x81\x20", "\x80\x00", "\xff"} {
			refused(t, []byte(y.b+behind), api.ErrForm, y.why+" texts")
		}
	}
	// All of them are there, and are no table's.
	refused(t, wantBytes(many(4097)), api.ErrForm, "4097 texts, all there")
	refused(t, []byte{128, 32}, api.ErrShort, "4096 texts, none there")
	refused(t, append([]byte{128, 32}, wantBytes(many(4095))[2:]...), api.ErrShort, "4096 texts, one isn't there")
}

// heads has bytes of tables up to where a length is read: of the first text, and of later ones.
func heads() []string {
	l := []string{"\x01", "\x02", "\x02\x01a", "\x02\x00", "\x03\x01a\x01b", "\x04\x01a\x00\x02aa", "\x80\x20"}
	return append(l, "\x80\x20"+string(wantBytes(many(4095))[2:]))
}

func TestP5_2ReadLengthErrors(t *testing.T) {
	for _, head := range heads() {
		for _, y := range varints {
			refused(t, []byte(head+y.b), y.e, "a length: "+y.why)
		}
		for _, y := range greats {
			for _, n := range []int{0, 1, 4096, 4097, 5000} {
				refused(t, []byte(head+y.b+long(n)), api.ErrForm, "a text of "+y.why+" bytes")
			}
		}
	}
}

func TestP5_2ReadTextEnds(t *testing.T) {
	for _, head := range heads() {
		for _, n := range []int{1, 2, 3, 127, 128, 4095, 4096} {
			size := string(binary.AppendUvarint(nil, uint64(n)))
			for _, there := range []int{0, 1, n / 2, n - 1} {
				if there < n {
					refused(t, []byte(head+size+long(there)), api.ErrShort, "a text that isn't whole")
				}
			}
		}
	}
}

func TestP5_2ReadThereBefore(t *testing.T) {
	for _, s := range texts() {
		for _, l := range [][]string{{s, s}, {s, "p", s}, {"p", s, s}, {"p", s, "q", "r", s}, {s, "p", s, s}} {
			refused(t, wantBytes(l), api.ErrForm, "a text that was there before")
			refused(t, append(wantBytes(l), 0, 255, 'a'), api.ErrForm, "a text that was there before, and bytes behind")
		}
	}
	l := many(4096)
	l[4095] = l[0]
	refused(t, wantBytes(l), api.ErrForm, "the last one was the first")
	l[4095] = l[4094]
	refused(t, wantBytes(l), api.ErrForm, "the last one was the one ahead of it")
}

// The first error is told, though another one stands behind it.
func TestP5_2ReadFirstError(t *testing.T) {
	for _, y := range []struct {
		why string
		b   string
		e   api.Errno
	}{
		{"one again, and none behind", "\x03\x01a\x01a", api.ErrForm},
		{"one again, and one that isn't whole", "\x03\x01a\x01a\x02b", api.ErrForm},
		{"one that isn't whole would be one again", "\x02\x01a\x01", api.ErrShort},
		{"begins like one that is there, and isn't whole", "\x02\x01a\x02a", api.ErrShort},
		{"the empty one again, and none behind", "\x03\x00\x00", api.ErrForm},
		{"too long, and not whole", "\x01\x81\x20a", api.ErrForm},
		{"too long, behind one that is there", "\x02\x01a\x81\x20", api.ErrForm},
		{"not whole, though its bytes tell a length that is wrong", "\x02\x05\x81\x20\x80\x00", api.ErrShort},
		{"a length that is wrong, ahead of one again", "\x03\x01a\x80\x00\x01a", api.ErrForm},
		{"too many, ahead of a length that ends", "\x81\x20\x80", api.ErrForm},
	} {
		refused(t, []byte(y.b), y.e, y.why)
	}
}

func TestP5_2ReadCutAnywhere(t *testing.T) {
	for _, name := range []string{"the empty one", "two", "128", "4096"} {
		b := wantBytes(lists()[name])
		for k := range len(b) {
			// Cut by its end alone, or with nothing to spare.
			if k > 1000 && k%97 != 0 {
				continue
			}
			refused(t, b[:k], api.ErrShort, "the bytes are there, but not handed in")
			refused(t, b[:k:k], api.ErrShort, "bytes that end within a table")
		}
	}
}

func TestP5_2ReadNoise(t *testing.T) {
	r := rand.New(rand.NewSource(5))
	ok := 0
	for range 50000 {
		b := noise(r.Intn(24), r.Int63())
		// Small numbers most of the time, so that texts come up whole and again.
		for i := range b {
			if r.Intn(20) != 0 {
				b[i] %= 4
			}
		}
		sameAsWanted(t, b)
		if _, _, e := Read(b); e == api.OK {
			ok++
		}
	}
	if ok < 1000 {
		t.Errorf("%d tables alone could be read", ok)
	}
}

// sameAsWanted asks that Read answers b as the document's words do.
func sameAsWanted(t *testing.T, b []byte) {
	t.Helper()
	keep := slices.Clone(b)
	x, n, e := Read(b)
	l, n2, e2 := wantRead(b)
	if n != n2 || e != e2 || (x == nil) != (e != api.OK) {
		t.Fatalf("Read(%.40x): a table (%v), %d, %d, want %d, %d", b, x != nil, n, e, n2, e2)
	}
	if !bytes.Equal(b, keep) {
		t.Fatalf("R4: Read changed %.40x to %.40x", keep, b)
	}
	if e == api.OK {
		has(t, x, l)
		finds(t, x, l)
		if !bytes.Equal(x.Bytes(), b[:n]) {
			t.Fatalf("Bytes of what Read(%.40x) tells: %.40x", b, x.Bytes())
		}
	}
}

// R4: a table that is told isn't changed by what becomes of the bytes, and the bytes aren't changed
// by what becomes of the table.
func TestP5_2ReadSharesNothing(t *testing.T) {
	b := []byte{2, 2, 'a', 'b', 1, 'c', 7, 7, 7}
	x, n, e := Read(b)
	if n != 6 || e != api.OK {
		t.Fatalf("Read: %d, %d", n, e)
	}
	y, _, _ := Read(b)
	keep := slices.Clone(b)
	if n, e := x.Put("d"); n != 2 || e != api.OK {
		t.Errorf("Put into a table that was read: %d, %d", n, e)
	}
	if !bytes.Equal(b, keep) {
		t.Errorf("R4: Put changed what was read to %v", b)
	}
	has(t, y, []string{"ab", "c"})
	for i := range b {
		b[i] = 'z'
	}
	has(t, x, []string{"ab", "c", "d"})
	finds(t, x, []string{"ab", "c", "d"})
	has(t, y, []string{"ab", "c"})
	finds(t, y, []string{"ab", "c"})
}

func TestP5_3BytesAreRead(t *testing.T) {
	behinds := [][]byte{nil, {0}, {1, 'a'}, {128}, {255, 255}, noise(50, 3)}
	for name, l := range lists() {
		t.Run(name, func(t *testing.T) {
			b := made(t, l).Bytes()
			for _, behind := range behinds {
				x, n, e := Read(slices.Concat(b, behind))
				if n != len(b) || e != api.OK {
					t.Fatalf("Read of a table's bytes and %x: %d, %d", behind, n, e)
				}
				has(t, x, l)
				finds(t, x, l)
			}
		})
	}
}

// What is read takes more texts as what was put does.
func TestP5_3ReadGoesOn(t *testing.T) {
	for name, l := range lists() {
		t.Run(name, func(t *testing.T) {
			x := made(t, l)
			y, _, e := Read(x.Bytes())
			if e != api.OK {
				t.Fatalf("Read: %d", e)
			}
			for _, s := range []string{"new", "new", "", long(4096), long(4097), "newer", "a"} {
				n, e := x.Put(s)
				if n2, e2 := y.Put(s); n2 != n || e2 != e {
					t.Errorf("Put(%.20q) into what was read: %d, %d, want %d, %d", s, n2, e2, n, e)
				}
			}
			if !bytes.Equal(x.Bytes(), y.Bytes()) {
				t.Errorf("Bytes: %.20x, want %.20x", y.Bytes(), x.Bytes())
			}
		})
	}
}

// The largest table of all, as a whole: 4096 texts of 4096 bytes.
func TestP5_3LargestTable(t *testing.T) {
	l := many(4096)
	for i := range l {
		l[i] += strings.Repeat(".", 4096-len(l[i]))
	}
	b := made(t, l).Bytes()
	x, n, e := Read(b)
	if n != 2+4096*(2+4096) || n != len(b) || e != api.OK {
		t.Fatalf("Read: %d, %d", n, e)
	}
	has(t, x, l)
	finds(t, x, l)
}

// Two tables have the same bytes just if they have the same texts in the same order.
func TestP5_3OrderIsKept(t *testing.T) {
	x := made(t, []string{"a", "b"})
	y := made(t, []string{"b", "a"})
	if bytes.Equal(x.Bytes(), y.Bytes()) {
		t.Errorf("two orders, one table's bytes: %v", x.Bytes())
	}
}

// R6: a call answers the same whatever was called between.
func TestR6NothingIsKept(t *testing.T) {
	want := []byte{2, 1, 'a', 1, 'b'}
	for _, l := range lists() {
		made(t, l)
		Read(wantBytes(l))
		Read(wantBytes(append(slices.Clone(l), "a", "a")))
		x, n, e := Read(want)
		if n != len(want) || e != api.OK {
			t.Fatalf("R6: Read: %d, %d", n, e)
		}
		has(t, x, []string{"a", "b"})
		has(t, New(), nil)
	}
}

func FuzzRead(f *testing.F) {
	for _, l := range [][]string{nil, {""}, {"a", "b"}, {"a", "a"}, texts()[:20]} {
		f.Add(wantBytes(l))
	}
	for _, y := range varints {
		f.Add([]byte(y.b))
		f.Add([]byte("\x02\x01a" + y.b))
	}
	f.Fuzz(sameAsWanted)
}

func FuzzPut(f *testing.F) {
	f.Add("a", "b", "c")
	f.Add("", "", "a")
	f.Add(long(4096), long(4097), long(4096))
	f.Fuzz(func(t *testing.T, a, b, c string) {
		x := New()
		var l []string
		for _, s := range []string{a, b, a, c, b, c} {
			var want int
			var wantE api.Errno
			l, want, wantE = wantPut(l, s)
			if n, e := x.Put(s); n != want || e != wantE {
				t.Errorf("Put(%.20q): %d, %d, want %d, %d", s, n, e, want, wantE)
			}
		}
		has(t, x, l)
		sameAsWanted(t, x.Bytes())
	})
}
