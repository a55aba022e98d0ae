package crc

import (
	"bytes"
	"hash/crc32"
	"math"
	"math/rand"
	"slices"
	"testing"

	"tallyroom/api"
)

// plain is the sum by the document's words, bit by bit.
func plain(b []byte) uint32 {
	state := uint32(math.MaxUint32)
	for _, c := range b {
		state ^= uint32(c)
		for range 8 {
			fell := state & 1
			state >>= 1
			if fell == 1 {
				state ^= 0xEDB88320
			}
		}
	}
	return ^state
}

// noise has n bytes that are the same at each run.
func noise(n int, seed int64) []byte {
	b := make([]byte, n)
	rand.New(rand.NewSource(seed)).Read(b)
	return b
}

// samples has lists of bytes: none, short ones, long ones, all alike, and noise.
func samples() [][]byte {
	l := [][]byte{nil, {}, []byte("a"), []byte("123456789"), []byte("täll"), {0}, {255}, {0, 0, 0, 0}, {255, 255, 255, 255}}
	for n := range 40 {
		l = append(l, noise(n, int64(n)))
	}
	for _, n := range []int{100, 255, 256, 257, 1999, 2000, 2001, api.MaxFrame} {
		l = append(l, noise(n, int64(n)), make([]byte, n), bytes.Repeat([]byte{255}, n))
	}
	return l
}

// turned is a copy of b with bit k turned.
func turned(b []byte, k int) []byte {
	out := slices.Clone(b)
	out[k/8] ^= 1 << (k % 8)
	return out
}

// refused asks that b is opened with error e and nothing beside it, and stays as it is.
func refused(t *testing.T, b []byte, e api.Errno, why string) {
	t.Helper()
	keep := slices.Clone(b)
	got, e2 := Open(b)
	if e2 != e {
		t.Fatalf("Open(%x) (%s): error %d, want %d", b, why, e2, e)
	}
	if len(got) != 0 {
		t.Fatalf("R2: Open(%x) tells %x beside an error", b, got)
	}
	if !bytes.Equal(b, keep) {
		t.Fatalf("R4: Open changed %x to %x", keep, b)
	}
}

func TestP2_1SumKnown(t *testing.T) {
	for _, x := range []struct {
		b    string
		want uint32
	}{
		{"", 0},
		{"a", 0xE8B7BE43},
		{"abc", 0x352441C2},
		{"123456789", 0xCBF43926},
		{"\x00", 0xD202EF8D},
		{"\xff", 0xFF000000},
		{"\x00\x00\x00\x00", 0x2144DF1C},
		{"\xff\xff\xff\xff", 0xFFFFFFFF},
	} {
		if got := Sum([]byte(x.b)); got != x.want {
			t.Errorf("Sum(%q): %x, want %x", x.b, got, x.want)
		}
	}
	if got := Sum(nil); got != 0 {
		t.Errorf("R3: Sum(nil): %x", got)
	}
}

func TestP2_1SumBitByBit(t *testing.T) {
	for _, b := range samples() {
		want := plain(b)
		if got := Sum(b); got != want {
			t.Errorf("Sum of %d bytes: %x, want %x", len(b), got, want)
		}
		if lib := crc32.ChecksumIEEE(b); lib != want {
			t.Errorf("the library's sum of %d bytes: %x, want %x", len(b), lib, want)
		}
	}
}

// Each byte, with each byte behind it: all of the table's numbers in both halves.
func TestP2_1SumAllPairs(t *testing.T) {
	for c := range 256 {
		one := []byte{byte(c)}
		if got := Sum(one); got != plain(one) {
			t.Errorf("Sum(%x): %x, want %x", one, got, plain(one))
		}
		for d := range 256 {
			two := []byte{byte(c), byte(d)}
			if got := Sum(two); got != plain(two) {
				t.Errorf("Sum(%x): %x, want %x", two, got, plain(two))
			}
		}
	}
}

func TestP2_1MorePartedAnywhere(t *testing.T) {
	for _, n := range []int{0, 1, 2, 9, 257} {
		b := noise(n, 7)
		want := plain(b)
		for k := range n + 1 {
			if got := More(Sum(b[:k]), b[k:]); got != want {
				t.Errorf("More of %d bytes parted at %d: %x, want %x", n, k, got, want)
			}
		}
	}
}

func TestP2_1MoreInManyParts(t *testing.T) {
	b := noise(1000, 8)
	var sum uint32
	for at, size := 0, 0; at < len(b); size++ {
		end := min(at+size, len(b))
		sum = More(sum, b[at:end])
		at = end
	}
	if sum != plain(b) {
		t.Errorf("More in many parts: %x, want %x", sum, plain(b))
	}
}

// Any number may be a sum; with nothing behind it stays.
func TestP2_1MoreOfAnySum(t *testing.T) {
	for _, sum := range []uint32{0, 1, 2, 15, 16, 255, 1 << 31, 0xEDB88320, 0xCBF43926, math.MaxUint32 - 1, math.MaxUint32} {
		if More(sum, nil) != sum || More(sum, []byte{}) != sum {
			t.Errorf("More(%x, nothing): %x, %x", sum, More(sum, nil), More(sum, []byte{}))
		}
		for _, b := range samples() {
			if got, want := More(sum, b), crc32.Update(sum, crc32.IEEETable, b); got != want {
				t.Errorf("More(%x, %d bytes): %x, want %x", sum, len(b), got, want)
			}
		}
	}
}

func TestP2_2SealKnown(t *testing.T) {
	for _, x := range []struct {
		b    []byte
		want []byte
	}{
		{nil, []byte{0, 0, 0, 0}},
		{[]byte{}, []byte{0, 0, 0, 0}},
		{[]byte("a"), []byte{'a', 0x43, 0xBE, 0xB7, 0xE8}},
		{[]byte("123456789"), append([]byte("123456789"), 0x26, 0x39, 0xF4, 0xCB)},
	} {
		if got := Seal(x.b); !bytes.Equal(got, x.want) {
			t.Errorf("Seal(%x): %x, want %x", x.b, got, x.want)
		}
		if got, e := Open(x.want); e != api.OK || !bytes.Equal(got, x.b) {
			t.Errorf("Open(%x): %x, %d, want %x", x.want, got, e, x.b)
		}
	}
}

func TestP2_2SealLowestFirst(t *testing.T) {
	for _, b := range samples() {
		got := Seal(b)
		if len(got) != len(b)+4 || !bytes.Equal(got[:len(b)], b) {
			t.Fatalf("Seal of %d bytes: %x", len(b), got)
		}
		sum := plain(b)
		for i, c := range got[len(b):] {
			if c != byte(sum>>(8*i)) {
				t.Errorf("Seal of %d bytes: byte %d of the sum %x is %x", len(b), i, sum, c)
			}
		}
	}
}

func TestP2_2SealIsNewList(t *testing.T) {
	room := []byte{7, 8, 9, 99, 99, 99, 99, 99}
	keep := slices.Clone(room)
	first := Seal(room[:3])
	second := Seal(room[:3])
	if !bytes.Equal(room, keep) {
		t.Errorf("R4: Seal wrote behind what was handed in: %v", room)
	}
	want := slices.Clone(second)
	first[0], first[6] = 1, ^first[6]
	if !bytes.Equal(room, keep) || !bytes.Equal(second, want) {
		t.Error("R4: what Seal tells shares memory")
	}
}

func TestP2_2OpenIsNewList(t *testing.T) {
	sealed := Seal([]byte("abc"))
	keep := slices.Clone(sealed)
	first, e := Open(sealed)
	if e != api.OK || string(first) != "abc" {
		t.Fatalf("Open: %q, %d", first, e)
	}
	second, _ := Open(sealed)
	first[0] = 'z'
	first = append(first, 1, 2, 3, 4)
	if !bytes.Equal(sealed, keep) || string(second) != "abc" {
		t.Errorf("R4: what Open tells (%x) shares memory", first)
	}
	sealed[1] = 'y'
	if string(second) != "abc" {
		t.Error("R4: what Open tells lies in what was handed in")
	}
}

func TestP2_2OpenShort(t *testing.T) {
	for _, b := range [][]byte{nil, {}, {0}, {0, 0}, {0, 0, 0}, {255, 255, 255}, {'a', 0x43, 0xBE}} {
		refused(t, b, api.ErrShort, "fewer than four bytes")
	}
}

func TestP2_2OpenWrongSum(t *testing.T) {
	for _, x := range []struct {
		why string
		b   []byte
	}{
		{"four that are no sum", []byte{1, 0, 0, 0}},
		{"four that are no sum", []byte{0, 0, 0, 1}},
		{"four that are no sum", []byte{255, 255, 255, 255}},
		{"the highest first", []byte{'a', 0xE8, 0xB7, 0xBE, 0x43}},
		{"bits not turned at the end", []byte{'a', 0xBC, 0x41, 0x48, 0x17}},
		{"another byte's sum", []byte{'b', 0x43, 0xBE, 0xB7, 0xE8}},
		{"a sum ahead", []byte{0x43, 0xBE, 0xB7, 0xE8, 'a'}},
		{"no sum at all", []byte("123456789")},
		{"zeros", make([]byte, 5)},
		{"many zeros", make([]byte, 2000)},
	} {
		refused(t, x.b, api.ErrSum, x.why)
	}
}

// One byte more or less, at either end, is told.
func TestP2_2OpenCutOrLonger(t *testing.T) {
	sealed := Seal([]byte("123456789"))
	for k := 1; k < len(sealed); k++ {
		e := api.ErrSum
		if len(sealed)-k < 4 {
			e = api.ErrShort
		}
		refused(t, sealed[:len(sealed)-k], e, "cut behind")
		refused(t, sealed[k:], e, "cut ahead")
	}
	for c := range 256 {
		refused(t, append(slices.Clone(sealed), byte(c)), api.ErrSum, "a byte behind")
		refused(t, append([]byte{byte(c)}, sealed...), api.ErrSum, "a byte ahead")
	}
}

func TestP2_3SealedIsOpened(t *testing.T) {
	for _, b := range samples() {
		keep := slices.Clone(b)
		once := Seal(b)
		if got, e := Open(once); e != api.OK || !bytes.Equal(got, b) {
			t.Errorf("Open(Seal) of %d bytes: %d bytes, %d", len(b), len(got), e)
		}
		twice := Seal(once)
		if got, e := Open(twice); e != api.OK || !bytes.Equal(got, once) {
			t.Errorf("Open of %d bytes sealed twice: %d bytes, %d", len(b), len(got), e)
		}
		if !bytes.Equal(b, keep) {
			t.Errorf("R4: %x was changed to %x", keep, b)
		}
	}
}

func TestP2_3OneBitTurned(t *testing.T) {
	for _, b := range samples() {
		if len(b) > 2001 {
			continue
		}
		sealed := Seal(b)
		for k := range 8 * len(sealed) {
			refused(t, turned(sealed, k), api.ErrSum, "one bit turned")
		}
	}
}

func TestP2_3OneBitTurnedInMuch(t *testing.T) {
	sealed := Seal(noise(api.MaxFrame, 9))
	for k := 0; k < 8*len(sealed); k += 4099 {
		refused(t, turned(sealed, k), api.ErrSum, "one bit turned")
	}
	refused(t, turned(sealed, 8*len(sealed)-1), api.ErrSum, "the last bit turned")
}

// All pairs of bits, where there are few.
func TestP2_3TwoBitsTurnedInFew(t *testing.T) {
	for n := range 20 {
		sealed := Seal(noise(n, int64(n)))
		bits := 8 * len(sealed)
		for k := range bits {
			one := turned(sealed, k)
			for j := k + 1; j < bits; j++ {
				refused(t, turned(one, j), api.ErrSum, "two bits turned")
			}
		}
	}
}

// Each distance of two bits within 2,000 bytes, counted from the first bit and from the last.
func TestP2_3TwoBitsTurnedAtEachDistance(t *testing.T) {
	sealed := Seal(noise(1996, 10))
	bits := 8 * len(sealed)
	first := turned(sealed, 0)
	last := turned(sealed, bits-1)
	for d := 1; d < bits; d++ {
		refused(t, turned(first, d), api.ErrSum, "the first bit and another turned")
		refused(t, turned(last, bits-1-d), api.ErrSum, "the last bit and another turned")
	}
}

// Two bits within 2,000 bytes that lie anywhere in more of them.
func TestP2_3TwoBitsTurnedInMuch(t *testing.T) {
	sealed := Seal(noise(9000, 11))
	bits := 8 * len(sealed)
	r := rand.New(rand.NewSource(12))
	for range 5000 {
		k := r.Intn(bits)
		j := min(k+1+r.Intn(16000-1), bits-1)
		if j == k {
			continue
		}
		refused(t, turned(turned(sealed, k), j), api.ErrSum, "two bits turned")
	}
}

func TestR4SumLeavesBytes(t *testing.T) {
	b := noise(300, 13)
	keep := slices.Clone(b)
	Sum(b)
	More(5, b)
	Seal(b)
	Open(b)
	if !bytes.Equal(b, keep) {
		t.Error("R4: what was handed in was changed")
	}
}

// R6: a call answers the same whatever was called between.
func TestR6NothingIsKept(t *testing.T) {
	want := Sum([]byte("123456789"))
	for _, b := range samples() {
		Seal(b)
		Open(b)
		if got := Sum([]byte("123456789")); got != want {
			t.Fatalf("R6: Sum: %x, want %x", got, want)
		}
	}
}

func FuzzOpen(f *testing.F) {
	f.Add([]byte{0, 0, 0, 0})
	f.Add([]byte("123456789"))
	f.Add(Seal([]byte("123456789")))
	f.Fuzz(func(t *testing.T, b []byte) {
		if got := Sum(b); got != plain(b) {
			t.Errorf("Sum(%x): %x, want %x", b, got, plain(b))
		}
		got, e := Open(b)
		if e == api.OK && !bytes.Equal(Seal(got), b) {
			t.Errorf("Seal(Open(%x)): %x", b, Seal(got))
		}
		if e != api.OK && len(got) != 0 {
			t.Errorf("R2: Open(%x) tells %x beside error %d", b, got, e)
		}
		if got, e := Open(Seal(b)); e != api.OK || !bytes.Equal(got, b) {
			t.Errorf("Open(Seal(%x)): %x, %d", b, got, e)
		}
	})
}
