package check

import (
	"bytes"
	"hash/crc32"
	"math"
	"math/bits"
	"math/rand"
	"slices"
	"strings"
	"testing"
)

// bitByBit goes on with a sum as the chapter's words tell it.
func bitByBit(sum uint32, b []byte) uint32 {
	s := ^sum
	for _, c := range b {
		for i := range 8 {
			unlike := s&1 != uint32(c>>i&1)
			s /= 2
			if unlike {
				s ^= 0xedb88320
			}
		}
	}
	return ^s
}

// some are bytes of many lengths, the same at each run.
func some() [][]byte {
	l := [][]byte{nil, {}, []byte("123456789"), []byte("merkhet"), []byte(strings.Repeat("a", 1000))}
	for c := range 256 {
		l = append(l, []byte{byte(c)})
	}
	r := rand.New(rand.NewSource(3))
	for size := range 70 {
		b := make([]byte, size)
		r.Read(b)
		l = append(l, b, bytes.Repeat([]byte{0}, size), bytes.Repeat([]byte{255}, size))
	}
	long := make([]byte, 5000)
	r.Read(long)
	return append(l, long)
}

// sums are some at the edges, and each with one bit.
func sums() []uint32 {
	l := []uint32{0, 1, 77, 0xcbf43926, 0xedb88320, math.MaxInt32, math.MaxUint32 - 1, math.MaxUint32}
	for i := range 32 {
		l = append(l, 1<<i, ^(1 << i))
	}
	return l
}

func TestSumExamples(t *testing.T) {
	if s := Sum([]byte("123456789")); s != 0xcbf43926 {
		t.Errorf("nine digits: %x", s)
	}
	for _, none := range [][]byte{nil, {}, []byte("abc")[:0]} {
		if s := Sum(none); s != 0 {
			t.Errorf("no bytes: %x", s)
		}
	}
}

func TestSum(t *testing.T) {
	for _, b := range some() {
		want := bitByBit(0, b)
		if want != crc32.ChecksumIEEE(b) {
			t.Fatalf("the test's own sum of %v is %x", b, want)
		}
		if got := Sum(b); got != want {
			t.Errorf("%v: %x, want %x", b, got, want)
		}
	}
}

func TestMoreWhateverTheSum(t *testing.T) {
	for _, sum := range sums() {
		for _, b := range some() {
			if got, want := More(sum, b), bitByBit(sum, b); got != want {
				t.Errorf("%x with %v: %x, want %x", sum, b, got, want)
			}
		}
	}
}

func TestMoreOfNoBytes(t *testing.T) {
	for _, sum := range sums() {
		if More(sum, nil) != sum || More(sum, []byte{}) != sum {
			t.Errorf("%x: %x %x", sum, More(sum, nil), More(sum, []byte{}))
		}
	}
}

func TestMoreGoesOnFromEachPlace(t *testing.T) {
	for _, b := range some() {
		if len(b) > 1000 {
			continue
		}
		want := Sum(b)
		for at := range len(b) + 1 {
			if got := More(Sum(b[:at]), b[at:]); got != want {
				t.Errorf("%v in two pieces at %d: %x, want %x", b, at, got, want)
			}
		}
		byBytes := uint32(0)
		for i := range b {
			byBytes = More(byBytes, b[i:i+1])
		}
		if byBytes != want {
			t.Errorf("%v byte by byte: %x, want %x", b, byBytes, want)
		}
	}
}

// turned are bytes with some of their bits turned, the lowest of a byte first.
func turned(b []byte, at int, pattern uint32) []byte {
	c := slices.Clone(b)
	for i := range 32 {
		if pattern>>i&1 == 1 {
			c[(at+i)/8] ^= 1 << ((at + i) % 8)
		}
	}
	return c
}

func TestToldUpTo32BitsInARow(t *testing.T) {
	r := rand.New(rand.NewSource(32))
	for _, text := range []string{"", "m", "merkhet", "merkhet, merkhet", strings.Repeat("\x00", 12), strings.Repeat("\xff", 12)} {
		b := []byte(text)
		for at := range 8 * len(b) {
			room := min(32, 8*len(b)-at)
			whole := uint32(1<<room - 1)
			patterns := []uint32{1, whole, 1 | 1<<(room-1), 0xedb88320 & whole, 0xdb710641 & whole}
			for range 50 {
				patterns = append(patterns, r.Uint32()&whole|1)
			}
			for _, p := range patterns {
				if p != 0 && Sum(turned(b, at, p)) == Sum(b) {
					t.Errorf("%q with %x turned at bit %d has the same sum", b, p, at)
				}
			}
		}
	}
}

func TestToldPairsOfBits(t *testing.T) {
	b := []byte("merkhet, merkhet")
	for at := range 8*len(b) - 32 {
		for far := 1; far < 32; far++ {
			if Sum(turned(b, at, 1|1<<far)) == Sum(b) {
				t.Errorf("bits %d and %d turned have the same sum", at, at+far)
			}
		}
	}
}

// rank is how many of some words none of the others make together.
func rank(words []uint32) int {
	var byTop [33]uint32
	n := 0
	for _, w := range words {
		for w != 0 && byTop[bits.Len32(w)] != 0 {
			w ^= byTop[bits.Len32(w)]
		}
		if w != 0 {
			byTop[bits.Len32(w)] = w
			n++
		}
	}
	return n
}

// Turned bits change the sum by what each of them changes, made one: so if no 32 in a row make 0 together, none of their 2^32 - 1 choices goes untold.
func TestToldEachChoiceOf32Bits(t *testing.T) {
	b := []byte("put right, clocks")
	sum := Sum(b)
	for at := range 8*len(b) - 31 {
		var changes []uint32
		for i := range 32 {
			changes = append(changes, Sum(turned(b, at, 1<<i))^sum)
		}
		if n := rank(changes); n != 32 {
			t.Errorf("32 bits from %d on: %d of them are told apart", at, n)
		}
	}
}

func TestNothingIsChangedOrKept(t *testing.T) {
	whole := []byte("merkhet, merkhet")
	b := whole[:7]
	before := Sum(b)
	More(before, b)
	if string(whole) != "merkhet, merkhet" {
		t.Errorf("%q", whole)
	}
	b[0] = 'M'
	if got := Sum([]byte("merkhet")); got != before {
		t.Errorf("%x, at first %x", got, before)
	}
	if Sum(b) == before {
		t.Error("what was changed has the same sum")
	}
	whole[7] = 'x'
	if got, want := Sum(b), bitByBit(0, b); got != want {
		t.Errorf("with other bytes behind: %x, want %x", got, want)
	}
}
