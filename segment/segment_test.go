package segment

import (
	"bytes"
	"encoding/binary"
	"fmt"
	"hash/crc32"
	"math"
	"math/rand"
	"slices"
	"testing"

	"merkhet/api"
	"merkhet/wire"
)

const (
	headBytes = 14
	maxKeep   = 16
)

// numbers are some that have each of their four bytes told apart, the least and the greatest among them.
func numbers() []uint32 {
	return []uint32{0, 1, 2, 255, 256, 257, 1 << 16, 1 << 24, 0x01020304, 1<<31 - 1, 1 << 31, math.MaxUint32 - 1, math.MaxUint32}
}

// headThatTells is a head with the sum that is right for it, laid by the library: its letters and its keep may be wrong ones.
func headThatTells(letters string, number uint32, keep uint16) []byte {
	told := binary.LittleEndian.AppendUint32([]byte(letters), number)
	told = binary.LittleEndian.AppendUint16(told, keep)
	return binary.LittleEndian.AppendUint32(told, crc32.ChecksumIEEE(told))
}

func headOfKeep(keep int) []byte {
	return headThatTells("SEG1", 7, uint16(keep))
}

// frameOf is the frame of any bytes, laid by the library: they may be no body.
func frameOf(body []byte) []byte {
	told := binary.LittleEndian.AppendUint16(nil, uint16(len(body)))
	sum := crc32.ChecksumIEEE(slices.Concat(told, body))
	return slices.Concat(told, binary.LittleEndian.AppendUint32(nil, sum), body)
}

// batchOf are the bytes of a batch of so many spans, which tell what number it was.
func batchOf(number, spans int) []byte {
	var l []api.Span
	for i := range spans {
		l = append(l, api.Span{Trace: uint64(number + 1), ID: uint64(i + 1), Host: "host", Name: "get", Start: int64(i), Dur: 1})
	}
	b, e := wire.Put(l)
	if e != api.OK {
		panic("the test's own batch may not be")
	}
	return b
}

// batches are so many, no two alike, of one span up to as many as there may be.
func batches(count int) [][]byte {
	var l [][]byte
	for i := range count {
		l = append(l, batchOf(i, 1+(i*31)%api.MaxBatch))
	}
	return l
}

// notBatches are bodies that are no batch's bytes, for each error that layer 4 has for them.
func notBatches() map[string][]byte {
	whole := batchOf(3, 2)
	bent := func(at int, to byte) []byte {
		b := slices.Clone(whole)
		b[at] = to
		return b
	}
	return map[string][]byte{
		"one byte":          {'S'},
		"the letters alone": []byte("SPAN"),
		"other letters":     bent(0, 's'),
		"no spans":          []byte("SPAN\x00\x00"),
		"33 spans":          append([]byte("SPAN\x21\x00"), make([]byte, api.MaxFrame-6)...),
		"a span too few":    whole[:len(whole)-api.SpanBytes],
		"a byte too few":    whole[:len(whole)-1],
		"a byte too many":   append(slices.Clone(whole), 0),
		"a host's length":   bent(6+41, 17),
		"a kind of 3":       bent(6+24, 3),
		"a frame's bytes":   frameOf(whole),
		"a head's bytes":    headOfKeep(1),
		"as many as may be": make([]byte, api.MaxFrame),
	}
}

// laid is a head and frames of bodies behind it, and the place behind the head and behind each of the frames.
func laid(head []byte, bodies [][]byte) (b []byte, ends []int) {
	b, ends = slices.Clone(head), []int{len(head)}
	for _, body := range bodies {
		b = append(b, frameOf(body)...)
		ends = append(ends, len(b))
	}
	return b, ends
}

// wantRead is what Read has to answer, as the chapter's words tell it one by one.
func wantRead(b []byte) (Seg, api.Errno) {
	if len(b) < headBytes {
		return Seg{}, api.ErrShort
	}
	if string(b[:4]) != "SEG1" {
		return Seg{}, api.ErrForm
	}
	if binary.LittleEndian.Uint32(b[10:]) != crc32.ChecksumIEEE(b[:10]) {
		return Seg{}, api.ErrSum
	}
	keep := int(binary.LittleEndian.Uint16(b[8:]))
	if keep == 0 || keep > maxKeep {
		return Seg{}, api.ErrRange
	}
	s := Seg{Number: binary.LittleEndian.Uint32(b[4:]), Keep: keep, Good: headBytes}
	for len(s.Bodies) < keep {
		body := wantBody(b[s.Good:])
		if _, e := wire.Get(body); e != api.OK {
			break
		}
		s.Bodies = append(s.Bodies, body)
		s.Good += 6 + len(body)
	}
	s.Sealed = len(s.Bodies) == keep
	return s, api.OK
}

// wantBody is the body of the frame with which bytes begin; none, if that isn't right.
func wantBody(b []byte) []byte {
	if len(b) < 6 {
		return nil
	}
	size := int(binary.LittleEndian.Uint16(b))
	if size == 0 || size > api.MaxFrame || len(b) < 6+size {
		return nil
	}
	if !bytes.Equal(frameOf(b[6:6+size]), b[:6+size]) {
		return nil
	}
	return b[6 : 6+size]
}

func same(a, b Seg) bool {
	return a.Number == b.Number && a.Keep == b.Keep && slices.EqualFunc(a.Bodies, b.Bodies, bytes.Equal) && a.Good == b.Good && a.Sealed == b.Sealed
}

// short tells a segment without its bodies' bytes.
func short(s Seg, e api.Errno) string {
	return fmt.Sprintf("number %d, keep %d, %d bodies, good %d, sealed %v, error %d", s.Number, s.Keep, len(s.Bodies), s.Good, s.Sealed, e)
}

// holdRead tells where Read doesn't answer that.
func holdRead(t *testing.T, what string, b []byte, want Seg, wantE api.Errno) {
	t.Helper()
	if s, e := Read(b); e != wantE || !same(s, want) {
		t.Errorf("%s: %s; want %s", what, short(s, e), short(want, wantE))
	}
}

// holdRefused tells where Read doesn't refuse bytes with that error and nothing beside it.
func holdRefused(t *testing.T, what string, b []byte, want api.Errno) {
	t.Helper()
	holdRead(t, what, b, Seg{}, want)
}

// holdSeven tells where what is read, of number 7, hasn't just these bodies behind its head.
func holdSeven(t *testing.T, what string, b []byte, keep int, bodies [][]byte) {
	t.Helper()
	good := headBytes
	for _, body := range bodies {
		good += 6 + len(body)
	}
	holdRead(t, what, b, Seg{Number: 7, Keep: keep, Bodies: bodies, Good: good, Sealed: len(bodies) == keep}, api.OK)
}

func TestExample(t *testing.T) {
	b, e := Head(7, 3)
	if e != api.OK {
		t.Fatal(e)
	}
	holdSeven(t, "a head alone", b, 3, nil)
}

func TestHead(t *testing.T) {
	for _, number := range numbers() {
		for keep := 1; keep <= maxKeep; keep++ {
			if b, e := Head(number, keep); e != api.OK || !bytes.Equal(b, headThatTells("SEG1", number, uint16(keep))) {
				t.Errorf("number %d, keep %d: %x, error %d", number, keep, b, e)
			}
		}
	}
}

func TestHeadByteByByte(t *testing.T) {
	told := []byte{'S', 'E', 'G', '1', 4, 3, 2, 1, 16, 0}
	want := binary.LittleEndian.AppendUint32(told, crc32.ChecksumIEEE(told))
	if b, e := Head(0x01020304, 16); e != api.OK || len(b) != headBytes || !bytes.Equal(b, want) {
		t.Errorf("%x, error %d, want %x", b, e, want)
	}
}

// TestHeadNoKeep has keeps, too, that in two bytes would look like one that may be.
func TestHeadNoKeep(t *testing.T) {
	for _, keep := range []int{0, -1, -16, 17, 18, 255, 256, 257, 1<<16 - 1, 1 << 16, 1<<16 + 1, 1<<16 + 16, -(1 << 16) + 1, 1<<32 + 1, math.MinInt + 1, math.MinInt, math.MaxInt} {
		for _, number := range numbers() {
			if b, e := Head(number, keep); e != api.ErrArg || len(b) != 0 {
				t.Errorf("number %d, keep %d: %x, error %d", number, keep, b, e)
			}
		}
	}
}

func TestReadHeadAlone(t *testing.T) {
	for _, number := range numbers() {
		for keep := 1; keep <= maxKeep; keep++ {
			b, _ := Head(number, keep)
			holdRead(t, "a head alone", b, Seg{Number: number, Keep: keep, Good: headBytes}, api.OK)
		}
	}
}

// TestReadFewBytes has wrong letters, sums and keeps, too: that there are too few bytes is told ahead of them.
func TestReadFewBytes(t *testing.T) {
	holdRefused(t, "nil", nil, api.ErrShort)
	for _, whole := range [][]byte{headOfKeep(1), headThatTells("FORM", 7, 1), headThatTells("SEG1", 7, 0), make([]byte, headBytes), bytes.Repeat([]byte{255}, headBytes)} {
		for size := range headBytes {
			holdRefused(t, fmt.Sprintf("%x", whole[:size]), whole[:size:size], api.ErrShort)
			holdRefused(t, fmt.Sprintf("%x, the others in spare room", whole[:size]), whole[:size], api.ErrShort)
		}
	}
}

// TestReadOtherLetters has sums that are right and wrong, and keeps: that the letters are others is told ahead of both.
func TestReadOtherLetters(t *testing.T) {
	for at := range 4 {
		for c := range 256 {
			letters := []byte("SEG1")
			letters[at] = byte(c)
			if string(letters) == "SEG1" {
				continue
			}
			for _, keep := range []uint16{1, 0} {
				b := headThatTells(string(letters), 7, keep)
				holdRefused(t, fmt.Sprintf("letters %q, keep %d", letters, keep), b, api.ErrForm)
				b[13] ^= 1
				holdRefused(t, fmt.Sprintf("letters %q, keep %d, another sum", letters, keep), b, api.ErrForm)
			}
		}
	}
	for _, letters := range []string{"seg1", "SEG2", "SPAN", "1GES", "\x00\x00\x00\x00"} {
		holdRefused(t, letters, headThatTells(letters, 7, 1), api.ErrForm)
	}
}

// TestReadOtherSum has keeps that are none, too, as they were and by a turned bit: that the sum is another one is told ahead.
func TestReadOtherSum(t *testing.T) {
	for _, keep := range []int{1, 8, 16, 0, 17, 1<<16 - 1} {
		for bit := 8 * 4; bit < 8*headBytes; bit++ {
			b := headOfKeep(keep)
			b[bit/8] ^= 1 << (bit % 8)
			holdRefused(t, fmt.Sprintf("keep %d, bit %d turned", keep, bit), b, api.ErrSum)
		}
	}
	b := headOfKeep(1)
	binary.LittleEndian.PutUint32(b[10:], crc32.ChecksumIEEE(b[4:10]))
	holdRefused(t, "the sum without the letters", b, api.ErrSum)
	binary.BigEndian.PutUint32(b[10:], crc32.ChecksumIEEE(b[:10]))
	holdRefused(t, "the sum the other way round", b, api.ErrSum)
}

func TestReadKeeps(t *testing.T) {
	batch := batchOf(1, 1)
	for keep := range 1 << 16 {
		b := headOfKeep(keep)
		if 1 <= keep && keep <= maxKeep {
			holdSeven(t, "a head alone", b, keep, nil)
			continue
		}
		holdRefused(t, fmt.Sprintf("keep %d", keep), b, api.ErrRange)
		if keep < 40 {
			holdRefused(t, fmt.Sprintf("keep %d, and a frame", keep), append(b, frameOf(batch)...), api.ErrRange)
		}
	}
}

func TestReadAsManyAsTheKeep(t *testing.T) {
	all := batches(maxKeep + 2)
	for keep := 1; keep <= maxKeep; keep++ {
		for count := 0; count <= keep+2; count++ {
			b, _ := laid(headOfKeep(keep), all[:count])
			holdSeven(t, fmt.Sprintf("keep %d, %d frames", keep, count), b, keep, all[:min(count, keep)])
		}
	}
}

func TestReadSameBatchAgain(t *testing.T) {
	batch := batchOf(1, 1)
	l := [][]byte{batch, batch, batch}
	b, _ := laid(headOfKeep(3), l)
	holdSeven(t, "one batch three times", b, 3, l)
}

func TestReadGreatestSegment(t *testing.T) {
	var l [][]byte
	for i := range maxKeep {
		l = append(l, batchOf(i, api.MaxBatch))
	}
	b, ends := laid(headOfKeep(maxKeep), l)
	if ends[maxKeep] != 14+16*2412 {
		t.Fatalf("the test's own segment has %d bytes", ends[maxKeep])
	}
	holdSeven(t, "16 batches of 32 spans", b, maxKeep, l)
}

// TestReadBehindTheKeep has many things behind a sealed segment: none of them counts.
func TestReadBehindTheKeep(t *testing.T) {
	l := batches(2)
	b, _ := laid(headOfKeep(2), l)
	for what, behind := range map[string][]byte{
		"a byte":         {0},
		"a part":         frameOf(batchOf(9, 1))[:50],
		"a frame":        frameOf(batchOf(9, 1)),
		"another head":   headOfKeep(2),
		"itself":         b,
		"no batch":       frameOf([]byte("SPAN")),
		"many bytes":     make([]byte, 5000),
		"another sum":    {1, 0, 0, 0, 0, 0, 9},
		"length of many": {255, 255, 0, 0, 0, 0},
	} {
		holdSeven(t, what, slices.Concat(b, behind), 2, l)
	}
}

// TestReadUpToTheFirstThatIsNotRight has good frames behind each that isn't right: they must not be found.
func TestReadUpToTheFirstThatIsNotRight(t *testing.T) {
	good := frameOf(batchOf(9, 1))
	otherSum := slices.Clone(good)
	otherSum[40] ^= 1
	wrongs := map[string][]byte{
		"another sum":        otherSum,
		"length 0":           frameOf(nil),
		"zeros":              make([]byte, 6),
		"a length too great": frameOf(make([]byte, api.MaxFrame+1)),
		"a byte":             {9},
		"a cut-off frame":    good[:len(good)-1],
		"a head":             headOfKeep(5),
	}
	for what, body := range notBatches() {
		wrongs["no batch: "+what] = frameOf(body)
	}
	all := batches(5)
	for what, wrong := range wrongs {
		for count := range 5 {
			b, _ := laid(headOfKeep(5), all[:count])
			b = append(b, wrong...)
			holdSeven(t, fmt.Sprintf("%s behind %d frames", what, count), b, 5, all[:count])
			for range 5 {
				b = append(b, good...)
			}
			holdSeven(t, fmt.Sprintf("%s behind %d frames, good ones behind", what, count), b, 5, all[:count])
		}
	}
}

// TestNotBatchesAreNone is of the test's own bytes: each must be refused by layer 4, but go into a frame.
func TestNotBatchesAreNone(t *testing.T) {
	met := map[api.Errno]bool{}
	for what, body := range notBatches() {
		_, e := wire.Get(body)
		met[e] = true
		if e == api.OK || len(body) == 0 || len(body) > api.MaxFrame {
			t.Errorf("%s: %d bytes, error %d", what, len(body), e)
		}
	}
	for _, e := range []api.Errno{api.ErrShort, api.ErrForm, api.ErrRange} {
		if !met[e] {
			t.Errorf("no body with error %d", e)
		}
	}
}

// TestTorn is P7.2: what is cut off behind its head reads as the frames that are whole.
func TestTorn(t *testing.T) {
	for _, keep := range []int{1, 3, 5} {
		for count := range keep + 2 {
			all := batches(count)
			b, ends := laid(headOfKeep(keep), all)
			for size := headBytes; size <= len(b); size++ {
				whole := 0
				for whole < min(count, keep) && ends[whole+1] <= size {
					whole++
				}
				holdSeven(t, fmt.Sprintf("keep %d, %d frames, cut off at %d", keep, count, size), b[:size], keep, all[:whole])
			}
		}
	}
}

// TestBentAnywhere turns each bit behind the head: the frames ahead of it stay, and none from it on is there.
func TestBentAnywhere(t *testing.T) {
	all := batches(2)
	b, ends := laid(headOfKeep(3), all)
	for bit := 8 * headBytes; bit < 8*len(b); bit++ {
		bent := slices.Clone(b)
		bent[bit/8] ^= 1 << (bit % 8)
		whole := 0
		if bit/8 >= ends[1] {
			whole = 1
		}
		holdSeven(t, fmt.Sprintf("bit %d turned", bit), bent, 3, all[:whole])
	}
}

// drawn are bytes that look like a segment, with something wrong here and there.
func drawn(r *rand.Rand) []byte {
	b := headThatTells("SEG1", r.Uint32(), uint16(r.Intn(18)))
	if r.Intn(8) == 0 {
		b[r.Intn(len(b))] ^= 1 << r.Intn(8)
	}
	wrongs := notBatches()
	for range r.Intn(8) {
		framed := frameOf(batchOf(r.Intn(9), 1+r.Intn(3)))
		switch r.Intn(12) {
		case 0:
			framed[r.Intn(len(framed))] ^= 1 << r.Intn(8)
		case 1:
			framed = framed[:r.Intn(len(framed))]
		case 2:
			framed = frameOf(wrongs["a byte too many"])
		case 3:
			framed = nil
		}
		b = append(b, framed...)
	}
	if r.Intn(4) == 0 {
		b = b[:r.Intn(len(b)+1)]
	}
	return b
}

func TestReadDrawn(t *testing.T) {
	r := rand.New(rand.NewSource(7))
	met := map[api.Errno]int{}
	for range 3000 {
		b := drawn(r)
		want, wantE := wantRead(b)
		met[wantE]++
		holdRead(t, fmt.Sprintf("drawn %x", b[:min(len(b), headBytes)]), b, want, wantE)
	}
	for _, e := range []api.Errno{api.OK, api.ErrShort, api.ErrForm, api.ErrSum, api.ErrRange} {
		if met[e] < 20 {
			t.Errorf("error %d was met %d times: this holds too little", e, met[e])
		}
	}
}

func TestReadAnyBytes(t *testing.T) {
	r := rand.New(rand.NewSource(8))
	for size := range 400 {
		b := make([]byte, size)
		r.Read(b)
		want, wantE := wantRead(b)
		holdRead(t, fmt.Sprintf("%d bytes", size), b, want, wantE)
		b = append(headOfKeep(2), b...)
		holdSeven(t, fmt.Sprintf("%d bytes behind a head", size), b, 2, nil)
	}
}

func TestReadReadsNoSpareRoom(t *testing.T) {
	all := batches(2)
	b, ends := laid(headOfKeep(2), all)
	holdSeven(t, "a head, the frames in spare room", b[:headBytes], 2, nil)
	holdSeven(t, "a frame, the other one in spare room", b[:ends[1]], 2, all[:1])
	holdSeven(t, "all but a byte, that in spare room", b[:len(b)-1], 2, all[:1])
}

func TestReadLeavesItsArgument(t *testing.T) {
	all := batches(3)
	b, _ := laid(headOfKeep(3), all)
	kept := slices.Clone(b)
	s, e := Read(b)
	if e != api.OK || !bytes.Equal(b, kept) {
		t.Fatalf("error %d, or the bytes that were read have changed", e)
	}
	clear(b)
	if !slices.EqualFunc(s.Bodies, all, bytes.Equal) {
		t.Error("writing into the bytes that were read changes the answer")
	}
}

func TestAnswersAreNewMemory(t *testing.T) {
	all := batches(3)
	b, _ := laid(headOfKeep(3), all)
	kept := slices.Clone(b)
	for i := range all {
		s, _ := Read(b)
		clear(s.Bodies[i][:cap(s.Bodies[i])])
		for k := range all {
			if k != i && !bytes.Equal(s.Bodies[k], all[k]) {
				t.Errorf("writing into body %d changes body %d", i, k)
			}
		}
	}
	if !bytes.Equal(b, kept) {
		t.Error("writing into an answer changes what was handed in")
	}
	one, _ := Head(7, 3)
	clear(one[:cap(one)])
	if again, _ := Head(7, 3); !bytes.Equal(again, headOfKeep(3)) {
		t.Errorf("writing into a head changes the next one: %x", again)
	}
}
