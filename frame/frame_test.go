package frame

import (
	"bytes"
	"encoding/binary"
	"hash/crc32"
	"math"
	"math/rand"
	"slices"
	"strconv"
	"testing"

	"tallyroom/api"
)

// noise has n bytes that are the same at each run.
func noise(n int, seed int64) []byte {
	b := make([]byte, n)
	rand.New(rand.NewSource(seed)).Read(b)
	return b
}

// small has bodies of few bytes: none, one, several, all alike, such as look like frames, and those
// at which the length takes one byte more.
func small() map[string][]byte {
	out := map[string][]byte{
		"nil":             nil,
		"none":            {},
		"one":             []byte("a"),
		"a zero":          {0},
		"255":             {255},
		"several":         []byte("123456789"),
		"zeros":           make([]byte, 5),
		"a frame":         raw([]byte("a")),
		"two frames":      slices.Concat(raw([]byte("a")), raw(nil)),
		"a frame's frame": raw(raw([]byte("a"))),
		"a wrong length":  {128, 0},
		"a long length":   {255, 255, 255, 1},
	}
	for _, n := range []int{2, 3, 4, 5, 126, 127, 128, 129, 255, 256, 257} {
		out[strconv.Itoa(n)+" bytes"] = noise(n, int64(n))
	}
	return out
}

// bodies has small ones, and great ones up to the limit.
func bodies() map[string][]byte {
	out := small()
	for _, n := range []int{1000, 16383, 16384, 65534, 65535, 65536} {
		out[strconv.Itoa(n)+" bytes"] = noise(n, int64(n))
		out[strconv.Itoa(n)+" zeros"] = make([]byte, n)
	}
	return out
}

// The calls, by the document's words and the library.

func uv(n uint64) []byte { return binary.AppendUvarint(nil, n) }

func sum(body []byte) []byte {
	return binary.LittleEndian.AppendUint32(nil, crc32.ChecksumIEEE(body))
}

// raw is a body's frame, of whatever length.
func raw(body []byte) []byte {
	return slices.Concat(uv(uint64(len(body))), body, sum(body))
}

// wantVarint is a number with which b begins: varint's words, read byte by byte.
func wantVarint(b []byte) (uint64, int, api.Errno) {
	var n uint64
	for i, c := range b {
		low := uint64(c & 127)
		if i == 10 || i == 9 && low > 1 {
			return 0, 0, api.ErrForm
		}
		n += low << (7 * i)
		if c < 128 {
			if c == 0 && i > 0 {
				return 0, 0, api.ErrForm
			}
			return n, i + 1, api.OK
		}
	}
	return 0, 0, api.ErrShort
}

func wantNext(b []byte) ([]byte, int, api.Errno) {
	n, head, e := wantVarint(b)
	left := b[head:]
	switch {
	case e != api.OK:
		return nil, 0, e
	case n > 65536:
		return nil, 0, api.ErrLong
	case uint64(len(left)) < n+4:
		return nil, 0, api.ErrShort
	}
	body, told := left[:n], left[n:n+4]
	if !bytes.Equal(told, sum(body)) {
		return nil, head + int(n) + 4, api.ErrSum
	}
	return body, head + int(n) + 4, api.OK
}

// wantAll is told of the first frame, and of all behind it.
func wantAll(b []byte) (l [][]byte, spoilt int, at int) {
	body, size, e := wantNext(b)
	if e != api.OK && e != api.ErrSum {
		return nil, 0, 0
	}
	l, spoilt, at = wantAll(b[size:])
	if e == api.ErrSum {
		return l, spoilt + 1, at + size
	}
	return append([][]byte{body}, l...), spoilt, at + size
}

func same(l, m [][]byte) bool { return slices.EqualFunc(l, m, bytes.Equal) }

// wraps asks that Wrap tells what the words say, and leaves what is handed in.
func wraps(t *testing.T, why string, body []byte) {
	t.Helper()
	keep := slices.Clone(body)
	got, e := Wrap(body)
	if want := raw(keep); e != api.OK || !bytes.Equal(got, want) {
		t.Errorf("P8.1: Wrap (%s): %.40x, %d, want %.40x", why, got, e, want)
	}
	if !bytes.Equal(body, keep) {
		t.Errorf("R4: Wrap (%s) changed what was handed in", why)
	}
}

// told asks that Next tells just this, and leaves what is handed in.
func told(t *testing.T, why string, b, body []byte, size int, e api.Errno) {
	t.Helper()
	keep := slices.Clone(b)
	got, n, e2 := Next(b)
	if !bytes.Equal(got, body) || n != size || e2 != e {
		t.Errorf("P8.1: Next of %.40x (%s): %.40x, %d, %d, want %.40x, %d, %d", b, why, got, n, e2, body, size, e)
	}
	if !bytes.Equal(b, keep) {
		t.Errorf("R4: Next (%s) changed what was handed in", why)
	}
}

// refused asks that Next tells an error with no body and no bytes.
func refused(t *testing.T, why string, b []byte, e api.Errno) {
	t.Helper()
	told(t, why, b, nil, 0, e)
}

// parted asks that All tells just this, and leaves what is handed in.
func parted(t *testing.T, why string, b []byte, l [][]byte, spoilt, at int) {
	t.Helper()
	keep := slices.Clone(b)
	got, spoilt2, at2 := All(b)
	if !same(got, l) || spoilt2 != spoilt || at2 != at {
		t.Errorf("P8.2: All of %.60x (%s): %.60x, %d, %d, want %.60x, %d, %d", b, why, got, spoilt2, at2, l, spoilt, at)
	}
	if !bytes.Equal(b, keep) {
		t.Errorf("R4: All (%s) changed what was handed in", why)
	}
}

// byWords asks that Next and All tell of any bytes what the words say.
func byWords(t *testing.T, why string, b []byte) {
	t.Helper()
	body, size, e := wantNext(b)
	told(t, why, b, body, size, e)
	l, spoilt, at := wantAll(b)
	parted(t, why, b, l, spoilt, at)
}

// turned is a copy of b with bit k turned.
func turned(b []byte, k int) []byte {
	out := slices.Clone(b)
	out[k/8] ^= 1 << (k % 8)
	return out
}

// bitsOf has the bits of a frame that aren't those of its length: of great ones, some.
func bitsOf(f []byte) []int {
	_, head, _ := wantVarint(f)
	step := 1
	if len(f) > 300 {
		step = len(f)/40 + 1
	}
	var l []int
	for k := 8 * head; k < 8*len(f); k += step {
		l = append(l, k)
	}
	// The body's last bit, where it has one, and the sum's first and last.
	for _, k := range []int{8*len(f) - 33, 8*len(f) - 32, 8*len(f) - 1} {
		if k >= 8*head {
			l = append(l, k)
		}
	}
	return l
}

// known has frames written out.
func known() map[string][]byte {
	return map[string][]byte{
		"":          {0, 0, 0, 0, 0},
		"a":         {1, 'a', 0x43, 0xBE, 0xB7, 0xE8},
		"abc":       {3, 'a', 'b', 'c', 0xC2, 0x41, 0x24, 0x35},
		"123456789": {9, '1', '2', '3', '4', '5', '6', '7', '8', '9', 0x26, 0x39, 0xF4, 0xCB},
		"\x00":      {1, 0, 0x8D, 0xEF, 0x02, 0xD2},
		"\xff":      {1, 255, 0, 0, 0, 255},
	}
}

// varints has bytes that are no number, with their errors.
func varints() map[string]struct {
	b []byte
	e api.Errno
} {
	run := func(behind ...byte) []byte { return append(bytes.Repeat([]byte{128}, 9), behind...) }
	return map[string]struct {
		b []byte
		e api.Errno
	}{
		"no byte":                     {nil, api.ErrShort},
		"it ends":                     {[]byte{128}, api.ErrShort},
		"it ends at two":              {[]byte{255, 129}, api.ErrShort},
		"it ends, and is too great":   {[]byte{255, 255, 255, 255}, api.ErrShort},
		"it ends at nine":             {run(), api.ErrShort},
		"it ends at ten":              {run(129), api.ErrShort},
		"its last byte is 0":          {[]byte{128, 0}, api.ErrForm},
		"1, and its last byte is 0":   {[]byte{129, 0}, api.ErrForm},
		"its third byte is 0":         {[]byte{255, 128, 0}, api.ErrForm},
		"its tenth byte is 0":         {run(0), api.ErrForm},
		"above 2^64 - 1":              {run(2), api.ErrForm},
		"above 2^64 - 1, and it ends": {run(130), api.ErrForm},
		"eleven bytes":                {run(129, 1), api.ErrForm},
	}
}

// greats has lengths above the limit, those among them that would be small if they went round.
func greats() []uint64 {
	const n = 65536
	return []uint64{
		n + 1, n + 2, n + 4, 2*n - 1, 2 * n, 1 << 20, 1 << 24, 1<<31 - 5, 1<<31 - 1, 1 << 31, 1<<32 - 4, 1<<32 - 1, 1 << 32, 1<<32 + 1, 1<<32 + n,
		1<<63 - 6, 1<<63 - 5, 1<<63 - 4, 1<<63 - 1, 1 << 63, 1<<63 + 1, math.MaxUint64 - 14, math.MaxUint64 - 5, math.MaxUint64 - 4, math.MaxUint64 - 3, math.MaxUint64 - 1, math.MaxUint64,
	}
}

func TestP8_1WrapKnown(t *testing.T) {
	for body, want := range known() {
		if got, e := Wrap([]byte(body)); e != api.OK || !bytes.Equal(got, want) {
			t.Errorf("P8.1: Wrap(%q): %v, %d, want %v", body, got, e, want)
		}
	}
	if got, e := Wrap(nil); e != api.OK || !bytes.Equal(got, make([]byte, 5)) {
		t.Errorf("R3: Wrap(nil): %v, %d", got, e)
	}
}

func TestP8_1WrapLengthTakesOneByteMore(t *testing.T) {
	for n, head := range map[int][]byte{
		127: {127}, 128: {128, 1}, 300: {172, 2}, 16383: {255, 127}, 16384: {128, 128, 1}, 65535: {255, 255, 3}, 65536: {128, 128, 4},
	} {
		body := noise(n, 1)
		got, e := Wrap(body)
		if e != api.OK || len(got) != len(head)+n+4 || !bytes.Equal(got, slices.Concat(head, body, sum(body))) {
			t.Errorf("P8.1: Wrap of %d bytes: %d bytes, %.8x, %d", n, len(got), got, e)
		}
	}
}

func TestP8_1WrapAll(t *testing.T) {
	for why, body := range bodies() {
		wraps(t, why, body)
	}
	for n := range 400 {
		wraps(t, strconv.Itoa(n), noise(n, int64(n)))
	}
	for c := range 256 {
		wraps(t, "one byte", []byte{byte(c)})
	}
}

func TestP8_1WrapTooLong(t *testing.T) {
	for _, n := range []int{65537, 65538, 131071, 131072, 1 << 20} {
		if got, e := Wrap(make([]byte, n)); e != api.ErrLong || len(got) != 0 {
			t.Errorf("P8.1: Wrap of %d bytes: %d bytes, %d", n, len(got), e)
		}
	}
}

func TestP8_1NextKnown(t *testing.T) {
	for body, f := range known() {
		told(t, "known", f, []byte(body), len(f), api.OK)
	}
}

func TestP8_1NextAll(t *testing.T) {
	for why, body := range bodies() {
		f := raw(body)
		told(t, why, f, body, len(f), api.OK)
	}
	for n := range 400 {
		f := raw(noise(n, int64(n)))
		told(t, strconv.Itoa(n), f, noise(n, int64(n)), len(f), api.OK)
	}
}

func TestP8_1NextNoBytes(t *testing.T) {
	refused(t, "nil", nil, api.ErrShort)
	refused(t, "no byte", []byte{}, api.ErrShort)
}

func TestP8_1NextLeavesBytesBehind(t *testing.T) {
	for why, body := range bodies() {
		f := raw(body)
		for _, behind := range [][]byte{{0}, {255}, {128, 0}, sum(f), raw(nil), raw([]byte("b")), f, noise(300, 2), make([]byte, 300)} {
			told(t, why+", and others", slices.Concat(f, behind), body, len(f), api.OK)
		}
	}
}

func TestP8_1NextVarintErrors(t *testing.T) {
	for why, x := range varints() {
		refused(t, why, x.b, x.e)
		if x.e == api.ErrShort {
			continue
		}
		for _, behind := range [][]byte{{0}, make([]byte, 20), raw([]byte("a")), noise(70000, 3), bytes.Repeat([]byte{255}, 20)} {
			refused(t, why+", and others", slices.Concat(x.b, behind), x.e)
		}
	}
}

// A length that isn't written in as few bytes as may be is wrong, though all the rest is right.
func TestP8_1NextLengthInMoreBytes(t *testing.T) {
	for _, n := range []int{0, 1, 5, 127} {
		body := noise(n, 4)
		refused(t, "a length in two bytes", slices.Concat([]byte{byte(n) | 128, 0}, body, sum(body)), api.ErrForm)
		refused(t, "a length in three bytes", slices.Concat([]byte{byte(n) | 128, 128, 0}, body, sum(body)), api.ErrForm)
	}
}

func TestP8_1NextLengthAtTheEdge(t *testing.T) {
	f := raw(noise(65536, 5))
	told(t, "65536", f, noise(65536, 5), len(f), api.OK)
	refused(t, "65536, and nothing", []byte{128, 128, 4}, api.ErrShort)
	refused(t, "65536, a byte lacks", f[:len(f)-1], api.ErrShort)
	refused(t, "65537, and nothing", []byte{129, 128, 4}, api.ErrLong)
	refused(t, "65537, all there", raw(noise(65537, 5)), api.ErrLong)
	refused(t, "65537, a byte lacks", raw(noise(65537, 5))[:3+65537+3], api.ErrLong)
	refused(t, "2^64 - 1", append(bytes.Repeat([]byte{255}, 9), 1), api.ErrLong)
}

func TestP8_1NextLengthTooGreat(t *testing.T) {
	for _, n := range greats() {
		why := "length " + strconv.FormatUint(n, 10)
		for _, behind := range [][]byte{nil, {0}, make([]byte, 4), make([]byte, 5), make([]byte, 20), raw([]byte("a")), make([]byte, 65540), make([]byte, 65541), noise(140000, 6)} {
			refused(t, why, slices.Concat(uv(n), behind), api.ErrLong)
		}
	}
	for _, n := range []int{65537, 65538, 70000, 131072} {
		f := raw(noise(n, 6))
		refused(t, strconv.Itoa(n)+", all there", f, api.ErrLong)
		refused(t, strconv.Itoa(n)+", and spoilt", turned(f, 8*len(f)-1), api.ErrLong)
	}
}

func TestP8_1NextCutAnywhere(t *testing.T) {
	for why, body := range bodies() {
		f := raw(body)
		for k := range f {
			// Of great ones each place near both ends, and some between.
			if k > 300 && k < len(f)-300 && k%1009 != 0 {
				continue
			}
			refused(t, why+", cut at "+strconv.Itoa(k), f[:k], api.ErrShort)
		}
	}
}

// That a frame isn't whole is told ahead of what is spoilt in it.
func TestP8_1NextCutAndSpoilt(t *testing.T) {
	f := raw([]byte("123456789"))
	for _, bit := range bitsOf(f) {
		other := turned(f, bit)
		for k := range f {
			refused(t, "cut and spoilt", other[:k], api.ErrShort)
		}
	}
}

func TestP8_1NextBitTurned(t *testing.T) {
	for why, body := range bodies() {
		f := raw(body)
		for _, bit := range bitsOf(f) {
			other := turned(f, bit)
			told(t, why+", bit "+strconv.Itoa(bit)+" turned", other, nil, len(f), api.ErrSum)
			told(t, why+", bit "+strconv.Itoa(bit)+" turned, and others", append(other, 1, 'a'), nil, len(f), api.ErrSum)
		}
	}
}

// A bit of the length turned: another frame, or none.
func TestP8_1NextBitOfTheLengthTurned(t *testing.T) {
	for why, body := range small() {
		f := slices.Concat(raw(body), raw([]byte("abc")), make([]byte, 150))
		for bit := range 8 * len(uv(uint64(len(body)))) {
			byWords(t, why+", its length turned", turned(f, bit))
		}
	}
}

func TestP8_1NextWrongSum(t *testing.T) {
	for why, body := range bodies() {
		head := slices.Concat(uv(uint64(len(body))), body)
		right := binary.LittleEndian.Uint32(sum(body))
		for other, s := range map[string][]byte{
			"the highest first":        binary.BigEndian.AppendUint32(nil, right),
			"bits not turned":          binary.LittleEndian.AppendUint32(nil, ^right),
			"one more":                 binary.LittleEndian.AppendUint32(nil, right+1),
			"the length summed too":    sum(head),
			"the sum of another":       sum(append([]byte{7}, body...)),
			"all bits set":             {255, 255, 255, 255},
			"another polynomial's sum": binary.LittleEndian.AppendUint32(nil, crc32.Checksum(body, crc32.MakeTable(crc32.Castagnoli))),
		} {
			// A few bodies have such a sum for their right one.
			if bytes.Equal(s, sum(body)) {
				continue
			}
			told(t, why+", "+other, slices.Concat(head, s), nil, len(head)+4, api.ErrSum)
		}
	}
	told(t, "zeros", make([]byte, 6), nil, 5, api.OK)
	told(t, "a body of one zero, and zeros", []byte{1, 0, 0, 0, 0, 0}, nil, 6, api.ErrSum)
}

func TestP8_2AllOfNothing(t *testing.T) {
	parted(t, "nil", nil, nil, 0, 0)
	parted(t, "no byte", []byte{}, nil, 0, 0)
}

func TestP8_2AllOfOne(t *testing.T) {
	for why, body := range bodies() {
		f := raw(body)
		parted(t, why, f, [][]byte{body}, 0, len(f))
		parted(t, why+", spoilt", turned(f, 8*len(f)-1), nil, 1, len(f))
	}
}

func TestP8_2AllKnown(t *testing.T) {
	a, b := known()["a"], known()["abc"]
	bad := []byte{1, 'b', 0, 0, 0, 0}
	parted(t, "two", slices.Concat(a, b), [][]byte{[]byte("a"), []byte("abc")}, 0, 14)
	parted(t, "two, turned", slices.Concat(b, a), [][]byte{[]byte("abc"), []byte("a")}, 0, 14)
	parted(t, "twice the same", slices.Concat(a, a), [][]byte{[]byte("a"), []byte("a")}, 0, 12)
	parted(t, "a spoilt one between", slices.Concat(a, bad, b), [][]byte{[]byte("a"), []byte("abc")}, 1, 20)
	parted(t, "a spoilt one ahead", slices.Concat(bad, a), [][]byte{[]byte("a")}, 1, 12)
	parted(t, "a spoilt one behind", slices.Concat(a, bad), [][]byte{[]byte("a")}, 1, 12)
	parted(t, "spoilt ones alone", slices.Concat(bad, bad, bad), nil, 3, 18)
	parted(t, "frames of no byte", make([]byte, 15), [][]byte{nil, nil, nil}, 0, 15)
	parted(t, "frames of no byte, and a cut", make([]byte, 19), [][]byte{nil, nil, nil}, 0, 15)
	parted(t, "a byte behind", slices.Concat(a, bad, a, []byte{9}), [][]byte{[]byte("a"), []byte("a")}, 1, 18)
}

// mixture has six frames, of which those are spoilt whose bit of k is set, and what All tells of it.
func mixture(k int) (b []byte, l [][]byte, spoilt int) {
	all := [][]byte{[]byte("a"), nil, noise(128, 7), []byte("a"), raw([]byte("b")), noise(300, 8)}
	for i, body := range all {
		f := raw(body)
		if k>>i&1 == 1 {
			bits := bitsOf(f)
			f = turned(f, bits[(7*k+i)%len(bits)])
			spoilt++
		} else {
			l = append(l, body)
		}
		b = append(b, f...)
	}
	return b, l, spoilt
}

func TestP8_2AllInAnyOrder(t *testing.T) {
	for k := range 64 {
		b, l, spoilt := mixture(k)
		parted(t, "six, of which "+strconv.Itoa(spoilt)+" are spoilt", b, l, spoilt, len(b))
	}
}

// tails has bytes at which All ends: whatever is in them, none is taken.
func tails() map[string][]byte {
	out := map[string][]byte{
		"nothing":                        nil,
		"a length alone":                 {1},
		"no sum":                         {1, 'a'},
		"half a sum":                     {1, 'a', 0x43, 0xBE},
		"a byte of the sum lacks":        {1, 'a', 0x43, 0xBE, 0xB7},
		"a byte lacks, and it is spoilt": {1, 'b', 0x43, 0xBE, 0xB7},
		"no body, a byte lacks":          {0, 0, 0, 0},
		"65536, a byte lacks":            raw(noise(65536, 9))[:3+65536+3],
		"65537, all there":               raw(noise(65537, 9)),
	}
	for why, x := range varints() {
		out[why] = x.b
		if x.e == api.ErrForm {
			out[why+", and a frame"] = slices.Concat(x.b, raw([]byte("a")))
		}
	}
	for _, n := range greats() {
		why := "length " + strconv.FormatUint(n, 10)
		out[why] = uv(n)
		out[why+", and frames"] = slices.Concat(uv(n), raw([]byte("a")), raw([]byte("b")))
	}
	return out
}

func TestP8_2AllEnds(t *testing.T) {
	for why, tail := range tails() {
		parted(t, why+" alone", tail, nil, 0, 0)
		for _, k := range []int{0, 1, 2, 21, 32, 42, 62, 63} {
			b, l, spoilt := mixture(k)
			parted(t, "six, and "+why, slices.Concat(b, tail), l, spoilt, len(b))
		}
	}
}

// Cut anywhere, all tell those that are whole.
func TestP8_2AllCutAnywhere(t *testing.T) {
	for _, k := range []int{0, 5, 10, 42, 63} {
		b, _, _ := mixture(k)
		for cut := range len(b) + 1 {
			l, spoilt, at := wantAll(b[:cut])
			parted(t, "six, cut at "+strconv.Itoa(cut), b[:cut], l, spoilt, at)
		}
	}
}

// Where All ended it can be gone on with, when more bytes have come.
func TestP8_2AllGoesOn(t *testing.T) {
	b, want, wantSpoilt := mixture(18)
	for cut := range len(b) + 1 {
		l, spoilt, at := All(b[:cut])
		l2, spoilt2, at2 := All(b[at:])
		if !same(slices.Concat(l, l2), want) || spoilt+spoilt2 != wantSpoilt || at+at2 != len(b) {
			t.Errorf("P8.2: All, parted at %d: %d and %d, %d and %d, %d and %d", cut, len(l), len(l2), spoilt, spoilt2, at, at2)
		}
	}
}

func TestP8_2AllOfMany(t *testing.T) {
	var b []byte
	var want [][]byte
	spoilt := 0
	for i := range 20000 {
		f := raw(uv(uint64(i)))
		if i%7 == 3 {
			f = turned(f, 8*len(f)-1-i%32)
			spoilt++
		} else {
			want = append(want, uv(uint64(i)))
		}
		b = append(b, f...)
	}
	parted(t, "many", b, want, spoilt, len(b))
}

func TestP8_3WrappedComesOut(t *testing.T) {
	var b []byte
	var l [][]byte
	for why, body := range bodies() {
		f, e := Wrap(body)
		if e != api.OK {
			t.Fatalf("P8.3: Wrap (%s): %d", why, e)
		}
		if got, size, e := Next(f); e != api.OK || size != len(f) || !bytes.Equal(got, body) {
			t.Errorf("P8.3: Next of what was wrapped (%s): %.40x, %d, %d", why, got, size, e)
		}
		b, l = append(b, f...), append(l, body)
	}
	parted(t, "all kinds", b, l, 0, len(b))
	at := 0
	for _, body := range l {
		got, size, e := Next(b[at:])
		if e != api.OK || !bytes.Equal(got, body) {
			t.Fatalf("P8.3: Next at %d: %.40x, %d, %d, want %.40x", at, got, size, e, body)
		}
		at += size
	}
	if at != len(b) {
		t.Errorf("P8.3: %d bytes are left", len(b)-at)
	}
}

// Frames within frames come out layer by layer, and aren't taken for others.
func TestP8_3FramesWithinFrames(t *testing.T) {
	body := []byte("abc")
	var layers [][]byte
	for range 50 {
		layers = append(layers, body)
		body, _ = Wrap(body)
	}
	for _, want := range slices.Backward(layers) {
		l, spoilt, at := All(body)
		if len(l) != 1 || spoilt != 0 || at != len(body) || !bytes.Equal(l[0], want) {
			t.Fatalf("P8.3: All of a frame within a frame: %x, %d, %d, want %x", l, spoilt, at, want)
		}
		body = l[0]
	}
	inner := slices.Concat(raw([]byte("a")), raw([]byte("b")))
	f := raw(inner)
	bad := turned(f, 8*len(f)-1)
	parted(t, "a spoilt frame with right ones within", slices.Concat(bad, raw([]byte("c"))), [][]byte{[]byte("c")}, 1, len(bad)+6)
}

func TestP8_3OneSpoiltTakesNoneAlong(t *testing.T) {
	var frames, l [][]byte
	for _, body := range small() {
		f, _ := Wrap(body)
		frames, l = append(frames, f), append(l, body)
	}
	for i, f := range frames {
		ahead, behind := slices.Concat(frames[:i]...), slices.Concat(frames[i+1:]...)
		rest := slices.Concat(l[:i], l[i+1:])
		for _, bit := range bitsOf(f) {
			b := slices.Concat(ahead, turned(f, bit), behind)
			got, spoilt, at := All(b)
			if !same(got, rest) || spoilt != 1 || at != len(b) {
				t.Errorf("P8.3: with bit %d of frame %d turned: %d bodies, %d, %d of %d", bit, i, len(got), spoilt, at, len(b))
			}
		}
	}
}

// R1: all of few bytes, and noise that looks like frames, with bytes turned, left out and doubled.
func TestR1AllOfFewBytes(t *testing.T) {
	for c := range 256 {
		byWords(t, "one byte", []byte{byte(c)})
		for d := range 256 {
			byWords(t, "two bytes", []byte{byte(c), byte(d)})
			byWords(t, "six bytes", []byte{byte(c), byte(d), 0, 0, 0, 0})
		}
	}
}

func TestR1SpoiltAnywhere(t *testing.T) {
	b := slices.Concat(raw([]byte("a")), raw(nil), raw([]byte("123456789")), raw(noise(130, 10)), raw([]byte("z")))
	for i := range b {
		for c := range 256 {
			other := slices.Clone(b)
			other[i] = byte(c)
			byWords(t, "a byte turned", other)
		}
		byWords(t, "a byte left out", slices.Delete(slices.Clone(b), i, i+1))
		byWords(t, "a byte doubled", slices.Insert(slices.Clone(b), i, b[i]))
	}
}

func TestR1Noise(t *testing.T) {
	r := rand.New(rand.NewSource(11))
	right, spoilt := 0, 0
	for range 20000 {
		var b []byte
		for range r.Intn(6) {
			f := raw(noise(r.Intn(200), r.Int63()))
			if r.Intn(3) == 0 {
				f[r.Intn(len(f))] = byte(r.Intn(256))
			}
			if r.Intn(20) == 0 {
				f = f[:r.Intn(len(f))]
			}
			b = append(b, f...)
		}
		byWords(t, "noise", b)
		l, n, _ := All(b)
		right, spoilt = right+len(l), spoilt+n
	}
	if right < 1000 || spoilt < 1000 {
		t.Errorf("%d right ones alone, %d spoilt ones", right, spoilt)
	}
}

// R4: what is handed in stays as it is, and behind its end too.
func TestR4HandedInStays(t *testing.T) {
	for why, body := range bodies() {
		room := append(slices.Clone(body), 71, 72, 73, 74, 75, 76, 77, 78)
		keep := slices.Clone(room)
		Wrap(room[:len(body)])
		if !bytes.Equal(room, keep) {
			t.Errorf("R4: Wrap (%s) changed what was handed in, or what is behind", why)
		}
		f := raw(body)
		for _, b := range [][]byte{f, turned(f, 8*len(f)-1), slices.Concat(f, f), f[:len(f)-1]} {
			room := append(slices.Clone(b), 71, 72, 73, 74, 75, 76, 77, 78)
			keep := slices.Clone(room)
			Next(room[:len(b)])
			All(room[:len(b)])
			if !bytes.Equal(room, keep) {
				t.Errorf("R4: Next or All (%s) changed what was handed in, or what is behind", why)
			}
		}
	}
}

// spoil writes over all of b, and behind its end.
func spoil(b []byte) {
	all := b[:cap(b)]
	for i := range all {
		all[i] = ^all[i]
	}
}

// R4: what Wrap tells shares no memory with the body, nor with what it tells again.
func TestR4WrappedIsTheCallers(t *testing.T) {
	for why, body := range bodies() {
		in, want := slices.Clone(body), raw(body)
		one, _ := Wrap(in)
		two, _ := Wrap(in)
		spoil(one)
		if !bytes.Equal(in, body) || !bytes.Equal(two, want) {
			t.Errorf("R4: (%s) changing what Wrap told changed the body, or what it told again", why)
		}
		spoil(in)
		if !bytes.Equal(two, want) {
			t.Errorf("R4: (%s) what Wrap told was changed with the body", why)
		}
	}
}

// R4: what Next tells shares no memory with the bytes, nor with what it tells again.
func TestR4NextIsTheCallers(t *testing.T) {
	for why, body := range bodies() {
		f := append(raw(body), 9, 9, 9)
		keep := slices.Clone(f)
		one, _, _ := Next(f)
		two, _, _ := Next(f)
		spoil(one)
		if !bytes.Equal(f, keep) || !bytes.Equal(two, body) {
			t.Errorf("R4: (%s) changing what Next told changed the bytes, or what it told again", why)
		}
		spoil(f)
		if !bytes.Equal(two, body) {
			t.Errorf("R4: (%s) what Next told was changed with the bytes", why)
		}
	}
}

// R4: what All tells shares no memory with the bytes, nor with what it or Next tells again, and no
// two lists of it share any.
func TestR4AllIsTheCallers(t *testing.T) {
	for _, k := range []int{0, 1, 18, 42} {
		b, want, _ := mixture(k)
		keep := slices.Clone(b)
		one, _, _ := All(b)
		two, _, _ := All(b)
		first, _, _ := Next(b)
		keepFirst := slices.Clone(first)
		for i := range one {
			spoil(one[i])
			if !same(one[i+1:], want[i+1:]) {
				t.Errorf("R4: a body that All told lies in another")
			}
		}
		clear(one[:cap(one)])
		if !bytes.Equal(b, keep) || !same(two, want) || !bytes.Equal(first, keepFirst) {
			t.Errorf("R4: changing what All told changed the bytes, or what was told again")
		}
		spoil(b)
		if !same(two, want) {
			t.Errorf("R4: what All told was changed with the bytes")
		}
	}
}

// R6: a call answers the same whatever was called between.
func TestR6NothingIsKept(t *testing.T) {
	b, l, spoilt := mixture(21)
	for why, body := range bodies() {
		f, _ := Wrap(body)
		Wrap(make([]byte, 65537))
		for _, x := range [][]byte{f, turned(f, 8*len(f)-1), f[:len(f)-1], append(f, 128, 0)} {
			Next(x)
			All(x)
		}
		wraps(t, "behind "+why, []byte("123456789"))
		told(t, "behind "+why, known()["a"], []byte("a"), 6, api.OK)
		parted(t, "behind "+why, b, l, spoilt, len(b))
	}
}

func FuzzAll(f *testing.F) {
	for _, body := range small() {
		f.Add(raw(body))
	}
	for _, tail := range varints() {
		f.Add(slices.Concat(raw([]byte("a")), tail.b))
	}
	for _, k := range []int{0, 21, 42} {
		b, _, _ := mixture(k)
		f.Add(b)
	}
	f.Fuzz(func(t *testing.T, b []byte) {
		byWords(t, "fuzz", b)
		if body, size, e := Next(b); e == api.OK {
			if again, e := Wrap(body); e != api.OK || !bytes.Equal(again, b[:size]) {
				t.Errorf("Wrap(Next(%x)): %x, %d", b, again, e)
			}
		}
		if len(b) <= 65536 {
			wraps(t, "fuzz", b)
			told(t, "wrapped", raw(b), b, len(raw(b)), api.OK)
		}
	})
}
