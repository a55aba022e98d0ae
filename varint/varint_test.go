package varint

import (
	"bytes"
	"encoding/binary"
	"math"
	"math/big"
	"slices"
	"testing"

	"tallyroom/api"
)

// numbers has the edges at which a number gets one byte more, and some between.
func numbers() []uint64 {
	l := []uint64{0, 1, 2, 5, 100, 300, 1000, 65535, 1<<32 - 1, 123456789012345, math.MaxUint64 - 1, math.MaxUint64}
	for k := range 64 {
		p := uint64(1) << k
		l = append(l, p-1, p, p+1, 3*p)
	}
	slices.Sort(l)
	return slices.Compact(l)
}

// run has n bytes c, and others behind.
func run(n int, c byte, behind ...byte) []byte {
	return append(bytes.Repeat([]byte{c}, n), behind...)
}

func TestP1_1PutKnown(t *testing.T) {
	for _, x := range []struct {
		n    uint64
		want []byte
	}{
		{0, []byte{0}},
		{1, []byte{1}},
		{127, []byte{127}},
		{128, []byte{128, 1}},
		{300, []byte{172, 2}},
		{1<<14 - 1, []byte{255, 127}},
		{1 << 14, []byte{128, 128, 1}},
		{1<<63 - 1, run(8, 255, 127)},
		{1 << 63, run(9, 128, 1)},
		{math.MaxUint64, run(9, 255, 1)},
	} {
		if got := Put(nil, x.n); !bytes.Equal(got, x.want) {
			t.Errorf("Put(nil, %d): %v, want %v", x.n, got, x.want)
		}
		if got := Size(x.n); got != len(x.want) {
			t.Errorf("Size(%d): %d, want %d", x.n, got, len(x.want))
		}
		n, size, e := Get(x.want)
		if n != x.n || size != len(x.want) || e != api.OK {
			t.Errorf("Get(%v): %d, %d, %d", x.want, n, size, e)
		}
	}
}

func TestP1_1PutAgainstLibrary(t *testing.T) {
	for _, n := range numbers() {
		want := binary.AppendUvarint(nil, n)
		if got := Put(nil, n); !bytes.Equal(got, want) {
			t.Errorf("Put(nil, %d): %v, want %v", n, got, want)
		}
		if got := Size(n); got != len(want) {
			t.Errorf("Size(%d): %d, want %d", n, got, len(want))
		}
	}
}

func TestP1_1PutIsNewList(t *testing.T) {
	room := []byte{7, 8, 9, 99, 99, 99}
	head := room[:3]
	first := Put(head, 300)
	second := Put(head, 5)
	if !bytes.Equal(first, []byte{7, 8, 9, 172, 2}) || !bytes.Equal(second, []byte{7, 8, 9, 5}) {
		t.Errorf("Put: %v, %v", first, second)
	}
	if !bytes.Equal(room, []byte{7, 8, 9, 99, 99, 99}) {
		t.Errorf("R4: Put wrote behind what was handed in: %v", room)
	}
	first[0] = 1
	if room[0] != 7 || second[0] != 7 {
		t.Error("R4: what Put tells shares memory")
	}
	if got := Put([]byte{}, 0); !bytes.Equal(got, []byte{0}) {
		t.Errorf("R3: Put of an empty list: %v", got)
	}
}

func TestP1_1GetWrong(t *testing.T) {
	for _, x := range []struct {
		why string
		b   []byte
		e   api.Errno
	}{
		{"nil", nil, api.ErrShort},
		{"no byte", []byte{}, api.ErrShort},
		{"an end within it", []byte{128}, api.ErrShort},
		{"an end within it", []byte{255, 255, 255}, api.ErrShort},
		{"nine bytes and an end", run(9, 128), api.ErrShort},
		{"nine bytes and an end", run(9, 255), api.ErrShort},
		{"a last byte 0", []byte{128, 0}, api.ErrForm},
		{"a last byte 0", []byte{129, 0}, api.ErrForm},
		{"a last byte 0, with more behind", []byte{255, 128, 0, 1}, api.ErrForm},
		{"a tenth byte 0", run(9, 255, 0), api.ErrForm},
		{"2^64", run(9, 128, 2), api.ErrForm},
		{"above 2^64", run(9, 255, 127), api.ErrForm},
		{"too great ahead of the end", run(9, 255, 255), api.ErrForm},
		{"too great ahead of the end", run(9, 128, 130), api.ErrForm},
		{"ten bytes and an end", run(10, 128), api.ErrShort},
		{"ten bytes and an end", run(10, 129), api.ErrShort},
		{"ten bytes and an end", run(9, 128, 129), api.ErrShort},
		{"ten bytes and an end", run(9, 255, 128), api.ErrShort},
		{"ten bytes and an end", run(9, 255, 129), api.ErrShort},
		{"a tenth byte too great, with more behind", run(9, 128, 130, 1), api.ErrForm},
		{"eleven bytes", run(10, 128, 1), api.ErrForm},
		{"eleven bytes, a last 0", run(10, 128, 0), api.ErrForm},
		{"eleven bytes and an end", run(11, 128), api.ErrForm},
		{"eleven bytes and an end", run(9, 255, 129, 255), api.ErrForm},
		{"twenty bytes", run(20, 255), api.ErrForm},
		{"a thousand bytes", run(1000, 128, 1), api.ErrForm},
	} {
		keep := slices.Clone(x.b)
		n, size, e := Get(x.b)
		if e != x.e {
			t.Errorf("Get(%v) (%s): error %d, want %d", x.b, x.why, e, x.e)
		}
		if n != 0 || size != 0 {
			t.Errorf("R2: Get(%v) tells %d, %d beside an error", x.b, n, size)
		}
		if !bytes.Equal(keep, x.b) {
			t.Errorf("R4: Get changed %v to %v", keep, x.b)
		}
	}
}

// read answers by the document's words, with numbers that have no end.
func read(b []byte) (uint64, int, api.Errno) {
	sum := new(big.Int)
	for i, c := range b {
		part := new(big.Int).Lsh(big.NewInt(int64(c&127)), uint(7*i))
		sum.Add(sum, part)
		if !sum.IsUint64() || i >= 10 {
			return 0, 0, api.ErrForm
		}
		if c >= 128 {
			continue
		}
		if c == 0 && i > 0 {
			return 0, 0, api.ErrForm
		}
		return sum.Uint64(), i + 1, api.OK
	}
	return 0, 0, api.ErrShort
}

func sameAsRead(t *testing.T, b []byte) {
	t.Helper()
	n, size, e := Get(b)
	if n2, size2, e2 := read(b); n != n2 || size != size2 || e != e2 {
		t.Errorf("Get(%v): %d, %d, %d, want %d, %d, %d", b, n, size, e, n2, size2, e2)
	}
}

func TestP1_1GetAllEnds(t *testing.T) {
	for k := range 12 {
		for _, c := range []byte{128, 129, 200, 255} {
			head := run(k, c)
			sameAsRead(t, head)
			for d := range 256 {
				sameAsRead(t, run(k, c, byte(d)))
				sameAsRead(t, run(k, c, byte(d), 0))
				sameAsRead(t, run(k, c, byte(d), 1, 128))
			}
		}
	}
}

func TestP1_1GetAllPairs(t *testing.T) {
	for c := range 256 {
		for d := range 256 {
			sameAsRead(t, []byte{byte(c), byte(d)})
		}
	}
}

func TestP1_2ZigKnown(t *testing.T) {
	for _, x := range []struct {
		n    int64
		want uint64
	}{
		{0, 0}, {-1, 1}, {1, 2}, {-2, 3}, {2, 4}, {-150, 299}, {150, 300},
		{1 << 62, 1 << 63}, {-1 << 62, 1<<63 - 1},
		{math.MaxInt64, math.MaxUint64 - 1}, {math.MinInt64, math.MaxUint64},
		{math.MaxInt64 - 1, math.MaxUint64 - 3}, {math.MinInt64 + 1, math.MaxUint64 - 2},
	} {
		if got := Zig(x.n); got != x.want {
			t.Errorf("Zig(%d): %d, want %d", x.n, got, x.want)
		}
		if got := Zag(x.want); got != x.n {
			t.Errorf("Zag(%d): %d, want %d", x.want, got, x.n)
		}
	}
}

func TestP1_2ZagTurnsBack(t *testing.T) {
	for _, u := range numbers() {
		if got := Zig(Zag(u)); got != u {
			t.Errorf("Zig(Zag(%d)): %d", u, got)
		}
		n := int64(u)
		if got := Zag(Zig(n)); got != n {
			t.Errorf("Zag(Zig(%d)): %d", n, got)
		}
	}
}

func TestP1_3PutIsGot(t *testing.T) {
	for _, behind := range [][]byte{nil, {0}, {1}, {128}, {255, 255}, run(30, 255), run(12, 0)} {
		for _, n := range numbers() {
			b := append(Put(nil, n), behind...)
			got, size, e := Get(b)
			if got != n || size != Size(n) || e != api.OK {
				t.Errorf("Get(%v): %d, %d, %d, want %d, %d", b, got, size, e, n, Size(n))
			}
		}
	}
}

func TestP1_3ManyPutAreGot(t *testing.T) {
	var b []byte
	for _, n := range numbers() {
		b = Put(b, n)
	}
	for _, n := range numbers() {
		got, size, e := Get(b)
		if got != n || e != api.OK {
			t.Fatalf("Get: %d, %d, want %d", got, e, n)
		}
		b = b[size:]
	}
	if len(b) != 0 {
		t.Errorf("%d bytes are left", len(b))
	}
}

func TestP1_3NeverBeginAlike(t *testing.T) {
	l := numbers()
	for i, n := range l {
		for j, m := range l {
			if i != j && bytes.HasPrefix(Put(nil, n), Put(nil, m)) {
				t.Errorf("the bytes of %d begin with those of %d", n, m)
			}
		}
	}
}

// A beginning of a number's bytes is short, and never wrong.
func TestP1_3BeginningsAreShort(t *testing.T) {
	for _, n := range numbers() {
		b := Put(nil, n)
		for k := range b {
			if got, size, e := Get(b[:k]); got != 0 || size != 0 || e != api.ErrShort {
				t.Errorf("Get(%v): %d, %d, %d", b[:k], got, size, e)
			}
		}
	}
}

func FuzzGet(f *testing.F) {
	f.Add([]byte{172, 2})
	f.Add(run(9, 255, 1))
	f.Add(run(10, 128, 1))
	f.Fuzz(func(t *testing.T, b []byte) {
		sameAsRead(t, b)
		if n, size, e := Get(b); e == api.OK && !bytes.Equal(Put(nil, n), b[:size]) {
			t.Errorf("Put(Get(%v)): %v", b, Put(nil, n))
		}
	})
}
