package pack

import (
	"bytes"
	"encoding/binary"
	"math"
	"slices"
	"strings"
	"testing"
)

// numbers are some at the edges of each size, and some whose bytes are all unlike.
func numbers() []uint64 {
	l := []uint64{0, 1, 2, 513, 0x0102030405060708, 0xfffefdfcfbfaf9f8, math.MaxUint64}
	for size := 1; size <= 8; size++ {
		edge := uint64(1) << (8*size - 1)
		l = append(l, edge-1, edge, edge+1, 2*edge-1, 2*edge, 2*edge+1)
	}
	return l
}

// texts are some of each length that a field may have, of any bytes, names or not.
func texts() []string {
	l := []string{"ab", "host-1", "\x00", "a\x00", "\x00a", "\x00\x00", "\x10", "\xff", "A b", "é", "日本語", strings.Repeat("\x00", 16), strings.Repeat("\xff", 16)}
	for size := range 17 {
		l = append(l, "abcdefghijklmnop"[:size])
	}
	return l
}

// lowest are a number's lowest bytes, told by the library.
func lowest(n uint64, size int) []byte {
	return binary.LittleEndian.AppendUint64(nil, n)[:size]
}

// fieldOf is a text's field, written down piece by piece.
func fieldOf(s string) []byte {
	return []byte(string([]byte{byte(len(s))}) + s + strings.Repeat("\x00", 16-len(s)))
}

// ahead are bytes that may stand ahead of what is laid.
func ahead() [][]byte {
	return [][]byte{nil, {}, {0}, {255}, {1, 2, 3}, bytes.Repeat([]byte{7}, 100)}
}

// sizeCounts are sizes, and as what they count.
func sizeCounts() map[int]int {
	m := map[int]int{math.MinInt: 0, math.MinInt32: 0, -256: 0, -8: 0, -1: 0, 9: 8, 16: 8, 64: 8, 256: 8, 257: 8, math.MaxInt32: 8, 1 << 32: 8, math.MaxInt: 8}
	for size := range 9 {
		m[size] = size
	}
	return m
}

func TestPutExample(t *testing.T) {
	if got := Put(nil, 513, 2); !bytes.Equal(got, []byte{1, 2}) {
		t.Error(got)
	}
}

func TestPut(t *testing.T) {
	for _, b := range ahead() {
		for _, n := range numbers() {
			for size, counts := range sizeCounts() {
				want := slices.Concat(b, lowest(n, counts))
				if got := Put(b, n, size); !bytes.Equal(got, want) {
					t.Errorf("%d in %d behind %v: %v, want %v", n, size, b, got, want)
				}
			}
		}
	}
}

func TestGetExample(t *testing.T) {
	if n, ok := Get([]byte{1, 2}, 0, 2); n != 513 || !ok {
		t.Error(n, ok)
	}
}

func TestGetEachPlace(t *testing.T) {
	b := []byte{1, 2, 3, 4, 5, 6, 7, 8, 9, 0xfa, 0xfb, 0xfc}
	for at := -3; at <= len(b)+3; at++ {
		for size, counts := range sizeCounts() {
			want, whole := uint64(0), 0 <= at && at+counts <= len(b)
			if whole {
				want = binary.LittleEndian.Uint64(append(slices.Clone(b[at:at+counts]), make([]byte, 8)...))
			}
			if n, ok := Get(b, at, size); n != want || ok != whole {
				t.Errorf("at %d in %d: %x %v, want %x %v", at, size, n, ok, want, whole)
			}
		}
	}
}

func TestGetFarPlaces(t *testing.T) {
	for _, b := range [][]byte{nil, {}, {1}, bytes.Repeat([]byte{1}, 20)} {
		for _, at := range []int{math.MinInt, math.MinInt + 8, math.MinInt32, -9, -8, -1, 21, 1 << 32, 1 << 62, math.MaxInt - 8, math.MaxInt - 7, math.MaxInt} {
			for size := range sizeCounts() {
				if n, ok := Get(b, at, size); n != 0 || ok {
					t.Errorf("of %d bytes at %d in %d: %d %v", len(b), at, size, n, ok)
				}
			}
		}
	}
}

func TestGetNoBytesAtTheEnd(t *testing.T) {
	for _, b := range [][]byte{nil, {}, {1}, {1, 2, 3}} {
		for _, size := range []int{0, -1, math.MinInt} {
			if n, ok := Get(b, len(b), size); n != 0 || !ok {
				t.Errorf("of %d bytes at their end in %d: %d %v", len(b), size, n, ok)
			}
			if n, ok := Get(b, len(b)+1, size); n != 0 || ok {
				t.Errorf("of %d bytes behind their end in %d: %d %v", len(b), size, n, ok)
			}
		}
	}
}

func TestGetReadsNoSpareRoom(t *testing.T) {
	b := []byte{1, 2, 3, 4}
	if n, ok := Get(b[:2], 1, 2); n != 0 || ok {
		t.Error(n, ok)
	}
}

func TestNumberThereAndBack(t *testing.T) {
	for _, b := range ahead() {
		for _, n := range numbers() {
			for size, counts := range sizeCounts() {
				want := n
				if counts < 8 {
					want = n % (1 << (8 * counts))
				}
				l := append(Put(b, n, size), 0xee)
				got, ok := Get(l, len(b), size)
				if got != want || !ok {
					t.Errorf("%d in %d: %d %v, want %d", n, size, got, ok, want)
				}
				if again := Put(b, got, size); !bytes.Equal(again, l[:len(l)-1]) {
					t.Errorf("%d in %d has two ways: %v and %v", n, size, l, again)
				}
			}
		}
	}
}

func TestPutTextExample(t *testing.T) {
	if got := PutText(nil, "ab"); !bytes.Equal(got, append([]byte{2, 'a', 'b'}, make([]byte, 14)...)) {
		t.Error(got)
	}
}

func TestPutText(t *testing.T) {
	for _, b := range ahead() {
		for _, s := range texts() {
			want := slices.Concat(b, fieldOf(s))
			if got := PutText(b, s); !bytes.Equal(got, want) {
				t.Errorf("%q behind %v: %v, want %v", s, b, got, want)
			}
		}
	}
}

func TestPutTextTooLong(t *testing.T) {
	// 256 and 272 would look like 0 and 16 in one byte; the last text has 16 letters of more bytes.
	for _, s := range []string{strings.Repeat("a", 17), strings.Repeat("a", 255), strings.Repeat("a", 256), strings.Repeat("a", 272), strings.Repeat("a", 1<<16), strings.Repeat("\x00", 17), strings.Repeat("é", 16)} {
		for _, b := range ahead() {
			if got := PutText(b, s); !bytes.Equal(got, b) {
				t.Errorf("a text of %d bytes behind %v: %v", len(s), b, got)
			}
		}
	}
}

func TestGetText(t *testing.T) {
	for _, b := range ahead() {
		for _, s := range texts() {
			for _, behind := range [][]byte{nil, {0}, {9, 9}} {
				l := slices.Concat(b, fieldOf(s), behind)
				if got, ok := GetText(l, len(b)); got != s || !ok {
					t.Errorf("%q in %v: %q %v", s, l, got, ok)
				}
			}
		}
	}
}

func TestGetTextNotAllThere(t *testing.T) {
	for _, s := range texts() {
		field := fieldOf(s)
		for whole := range field {
			if got, ok := GetText(field[:whole], 0); got != "" || ok {
				t.Errorf("%d bytes of the field of %q: %q %v", whole, s, got, ok)
			}
		}
	}
}

func TestGetTextFarPlaces(t *testing.T) {
	for _, b := range [][]byte{nil, {}, make([]byte, 17), make([]byte, 34)} {
		for _, at := range []int{math.MinInt, math.MinInt + 16, math.MinInt32, -17, -1, len(b) - 16, len(b), len(b) + 1, 1 << 32, 1 << 62, math.MaxInt - 17, math.MaxInt - 16, math.MaxInt} {
			if got, ok := GetText(b, at); got != "" || ok {
				t.Errorf("of %d bytes at %d: %q %v", len(b), at, got, ok)
			}
		}
	}
}

func TestGetTextOfWrongLength(t *testing.T) {
	for size := 17; size < 256; size++ {
		for _, fill := range []byte{0, 'a'} {
			b := bytes.Repeat([]byte{fill}, 300)
			b[0] = byte(size)
			if got, ok := GetText(b, 0); got != "" || ok {
				t.Errorf("a field that tells %d bytes: %q %v", size, got, ok)
			}
		}
	}
}

func TestGetTextOfWrongRest(t *testing.T) {
	for _, s := range texts() {
		for at := 1 + len(s); at < 17; at++ {
			for _, c := range []byte{1, ' ', '0', 'a', 128, 255} {
				field := fieldOf(s)
				field[at] = c
				if got, ok := GetText(field, 0); got != "" || ok {
					t.Errorf("the field of %q with %d at %d: %q %v", s, c, at, got, ok)
				}
			}
		}
	}
}

// TestTextOneWay reads at each place of bytes full of counts and zeros: what is read must have just those bytes.
func TestTextOneWay(t *testing.T) {
	var b []byte
	for i := range 4096 {
		b = append(b, byte(i*i%19*(i/7%2)))
		if i%5 == 0 {
			b = append(b, make([]byte, i%23)...)
		}
	}
	read := 0
	for at := range b {
		s, ok := GetText(b, at)
		if !ok {
			continue
		}
		read++
		if !bytes.Equal(PutText(nil, s), b[at:at+17]) {
			t.Errorf("%q is read from other bytes than its own: %v", s, b[at:at+17])
		}
	}
	if read == 0 || read == len(b) {
		t.Errorf("%d of %d: this holds nothing", read, len(b))
	}
}

// puts are the calls that lay something behind others, and those that lay nothing.
func puts() map[string]func(b []byte) []byte {
	return map[string]func(b []byte) []byte{
		"a number":           func(b []byte) []byte { return Put(b, math.MaxUint64, 8) },
		"no bytes":           func(b []byte) []byte { return Put(b, math.MaxUint64, 0) },
		"a text":             func(b []byte) []byte { return PutText(b, strings.Repeat("z", 16)) },
		"an empty text":      func(b []byte) []byte { return PutText(b, "") },
		"a text too long":    func(b []byte) []byte { return PutText(b, strings.Repeat("z", 17)) },
		"a size far too low": func(b []byte) []byte { return Put(b, 1, math.MinInt) },
	}
}

func TestPutsLeaveTheirArgument(t *testing.T) {
	for what, put := range puts() {
		for _, size := range []int{0, 3, 100} {
			room := bytes.Repeat([]byte{5}, 100)
			kept := slices.Clone(room)
			out := put(room[:size])
			if !bytes.Equal(room, kept) {
				t.Errorf("%s behind %d: what was handed in has changed, or its spare room", what, size)
			}
			want := slices.Clone(out)
			for i := range room {
				room[i] = 6
			}
			if !bytes.Equal(out, want) {
				t.Errorf("%s behind %d: writing into what was handed in changes the answer", what, size)
			}
			clear(out[:cap(out)])
			if !bytes.Equal(room, bytes.Repeat([]byte{6}, 100)) {
				t.Errorf("%s behind %d: writing into the answer changes what was handed in", what, size)
			}
		}
	}
}

func TestGetsLeaveTheirArgument(t *testing.T) {
	b := fieldOf("host-1")
	kept := slices.Clone(b)
	s, ok := GetText(b, 0)
	Get(b, 0, 8)
	if !bytes.Equal(b, kept) {
		t.Error("the bytes that were read have changed")
	}
	clear(b)
	if s != "host-1" || !ok {
		t.Errorf("writing into the bytes that were read changes the text: %q", s)
	}
}
