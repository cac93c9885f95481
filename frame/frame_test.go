package frame

import (
	"bytes"
	"encoding/binary"
	"fmt"
	"hash/crc32"
	"math"
	"math/rand"
	"slices"
	"testing"

	"merkhet/api"
)

const maxBody = 2406

// some are so many bytes, the same at each run.
func some(size int) []byte {
	b := make([]byte, size)
	rand.New(rand.NewSource(int64(size))).Read(b)
	return b
}

// bodies are some of many lengths, the least and the greatest among them.
func bodies() [][]byte {
	l := [][]byte{[]byte("a"), []byte("span"), {0}, {255}, make([]byte, 6), bytes.Repeat([]byte{255}, maxBody), make([]byte, maxBody)}
	for _, size := range []int{1, 2, 3, 5, 6, 7, 8, 100, 254, 255, 256, 257, 511, 512, 513, 2400, 2404, 2405, maxBody} {
		l = append(l, some(size))
	}
	return l
}

// notBodies are bytes that are no body; the last ones have a length that in two bytes would look like a body's.
func notBodies() [][]byte {
	l := [][]byte{nil, {}, []byte("abc")[:0]}
	for _, size := range []int{maxBody + 1, maxBody + 2, 4096, 1<<16 - 1, 1 << 16, 1<<16 + 1, 1<<16 + 4, 1<<16 + maxBody, 1<<17 + 5} {
		l = append(l, some(size))
	}
	return l
}

// frameThatTells are the length, which may be a wrong one, the sum of it and of the body, and the body, laid by the library.
func frameThatTells(length uint16, body []byte) []byte {
	told := binary.LittleEndian.AppendUint16(nil, length)
	sum := crc32.ChecksumIEEE(slices.Concat(told, body))
	return slices.Concat(told, binary.LittleEndian.AppendUint32(nil, sum), body)
}

func frameOf(body []byte) []byte {
	return frameThatTells(uint16(len(body)), body)
}

// wantGet is what Get has to answer, as the chapter's words tell it one by one.
func wantGet(b []byte, at int) ([]byte, int, api.Errno) {
	if at < 0 || at >= len(b) {
		return nil, 0, api.ErrNone
	}
	b = b[at:]
	if len(b) < 6 {
		return nil, 0, api.ErrShort
	}
	size := int(b[0]) + 256*int(b[1])
	if size == 0 || size > maxBody {
		return nil, 0, api.ErrForm
	}
	if len(b) < 6+size {
		return nil, 0, api.ErrShort
	}
	sum := crc32.ChecksumIEEE(slices.Concat(b[:2], b[6:6+size]))
	if binary.LittleEndian.Uint32(b[2:]) != sum {
		return nil, 0, api.ErrSum
	}
	return b[6 : 6+size], at + 6 + size, api.OK
}

// wantAll is what All has to answer.
func wantAll(b []byte, at, most int) ([][]byte, int) {
	var l [][]byte
	for len(l) < most {
		body, next, e := wantGet(b, at)
		if e != api.OK {
			break
		}
		l, at = append(l, body), next
	}
	return l, at
}

func checkGet(t *testing.T, b []byte, at int) {
	t.Helper()
	body, next, e := Get(b, at)
	wantBody, wantNext, wantE := wantGet(b, at)
	if !bytes.Equal(body, wantBody) || next != wantNext || e != wantE {
		t.Errorf("of %d bytes at %d: %d bytes, next %d, error %d; want %d bytes, next %d, error %d", len(b), at, len(body), next, e, len(wantBody), wantNext, wantE)
	}
}

func checkAll(t *testing.T, b []byte, at, most int) {
	t.Helper()
	l, next := All(b, at, most)
	wantList, wantNext := wantAll(b, at, most)
	if !slices.EqualFunc(l, wantList, bytes.Equal) || next != wantNext {
		t.Errorf("of %d bytes at %d, %d at most: %d bodies, next %d; want %d bodies, next %d", len(b), at, most, len(l), next, len(wantList), wantNext)
	}
}

// checkRefused tells whether Get refuses what stands at a place, with that error and nothing beside it.
func checkRefused(t *testing.T, what string, b []byte, at int, want api.Errno) {
	t.Helper()
	if body, next, e := Get(b, at); e != want || next != 0 || len(body) != 0 {
		t.Errorf("%s: %d bytes, next %d, error %d, want error %d", what, len(body), next, e, want)
	}
}

func TestPutExample(t *testing.T) {
	want := []byte{1, 0, 0xeb, 0xe2, 0x36, 0xc4, 'a'}
	if !bytes.Equal(want, frameOf([]byte("a"))) {
		t.Fatalf("the test's own frame of a is %x", frameOf([]byte("a")))
	}
	if b, e := Put([]byte("a")); e != api.OK || !bytes.Equal(b, want) {
		t.Errorf("%x, error %d", b, e)
	}
}

func TestPut(t *testing.T) {
	for _, body := range bodies() {
		if b, e := Put(body); e != api.OK || !bytes.Equal(b, frameOf(body)) {
			t.Errorf("a body of %d bytes: %d bytes, error %d", len(body), len(b), e)
		}
	}
}

func TestPutEachLength(t *testing.T) {
	all := some(maxBody)
	for size := 1; size <= maxBody; size++ {
		if b, e := Put(all[:size]); e != api.OK || len(b) != size+6 || int(b[0])+256*int(b[1]) != size {
			t.Fatalf("a body of %d bytes: %d bytes, error %d", size, len(b), e)
		}
	}
}

func TestPutNoBody(t *testing.T) {
	for _, body := range notBodies() {
		if b, e := Put(body); e != api.ErrArg || len(b) != 0 {
			t.Errorf("%d bytes: %d bytes, error %d", len(body), len(b), e)
		}
	}
}

func TestGetThereAndBack(t *testing.T) {
	for _, body := range bodies() {
		framed, _ := Put(body)
		for _, ahead := range [][]byte{nil, {0}, some(9), framed} {
			for _, behind := range [][]byte{nil, {0}, {9, 9, 9, 9, 9, 9, 9}, framed} {
				b := slices.Concat(ahead, framed, behind)
				got, next, e := Get(b, len(ahead))
				if e != api.OK || !bytes.Equal(got, body) || next != len(ahead)+len(framed) {
					t.Errorf("a body of %d bytes between %d and %d: %d bytes, next %d, error %d", len(body), len(ahead), len(behind), len(got), next, e)
				}
			}
		}
	}
}

func TestGetFarPlaces(t *testing.T) {
	for _, b := range [][]byte{nil, {}, {1}, frameOf([]byte("a")), some(3000)} {
		for _, at := range []int{math.MinInt, math.MinInt + 6, math.MinInt32, -7, -6, -1, len(b), len(b) + 1, len(b) + 6, 1 << 32, 1 << 62, math.MaxInt - 6, math.MaxInt - 5, math.MaxInt} {
			checkRefused(t, fmt.Sprintf("of %d bytes at %d", len(b), at), b, at, api.ErrNone)
		}
	}
}

// TestGetFewerThanSix has lengths that are wrong, too: that there are fewer than 6 bytes is told ahead of it.
func TestGetFewerThanSix(t *testing.T) {
	for _, head := range [][]byte{{1, 0, 0, 0, 0}, {0, 0, 0, 0, 0}, {255, 255, 255, 255, 255}, {0x67, 0x09, 0, 0, 0}, frameOf([]byte("a"))[:5]} {
		for left := 1; left <= len(head); left++ {
			for _, ahead := range [][]byte{nil, frameOf([]byte("span"))} {
				checkRefused(t, fmt.Sprintf("%v behind %d", head[:left], len(ahead)), slices.Concat(ahead, head[:left]), len(ahead), api.ErrShort)
			}
		}
	}
}

// TestGetWrongLength has bytes that aren't all there, too, and sums that are right and wrong: that the length is wrong is told ahead of both.
func TestGetWrongLength(t *testing.T) {
	long := some(1<<16 - 1)
	for _, length := range []int{0, maxBody + 1, maxBody + 2, 4096, 1<<15 - 1, 1 << 15, 1<<16 - 2, 1<<16 - 1} {
		for _, size := range []int{0, 1, maxBody, length} {
			b := frameThatTells(uint16(length), long[:size])
			checkRefused(t, fmt.Sprintf("%d bytes that tell %d", size, length), b, 0, api.ErrForm)
			b[2]++
			checkRefused(t, fmt.Sprintf("%d bytes that tell %d, of another sum", size, length), b, 0, api.ErrForm)
		}
	}
}

// TestGetBodyCutOff has sums of what is left and other ones: that the body isn't all there is told ahead of its sum.
func TestGetBodyCutOff(t *testing.T) {
	for _, body := range bodies() {
		framed := frameOf(body)
		for left := range body {
			checkRefused(t, fmt.Sprintf("%d of %d bytes", left, len(body)), framed[:6+left], 0, api.ErrShort)
			if left%97 == 0 {
				b := frameThatTells(uint16(len(body)), body[:left])
				checkRefused(t, fmt.Sprintf("%d of %d bytes, of their own sum", left, len(body)), b, 0, api.ErrShort)
			}
		}
	}
}

func TestGetOtherSum(t *testing.T) {
	for _, body := range [][]byte{[]byte("a"), []byte("span"), make([]byte, 6), some(300)} {
		framed := frameOf(body)
		for bit := 8 * 2; bit < 8*len(framed); bit++ {
			b := slices.Clone(framed)
			b[bit/8] ^= 1 << (bit % 8)
			checkRefused(t, fmt.Sprintf("a body of %d bytes, bit %d turned", len(body), bit), b, 0, api.ErrSum)
		}
	}
}

// TestGetSumHasTheLength lays a sum of the body alone, and a length that is another one with its bytes all there.
func TestGetSumHasTheLength(t *testing.T) {
	body := []byte("span")
	b := frameOf(body)
	binary.LittleEndian.PutUint32(b[2:], crc32.ChecksumIEEE(body))
	checkRefused(t, "the sum of the body alone", b, 0, api.ErrSum)
	for length := 1; length <= 10; length++ {
		b := slices.Concat(frameOf(body), make([]byte, 6))
		b[0] = byte(length)
		if length != len(body) {
			checkRefused(t, fmt.Sprintf("4 bytes that tell %d", length), b, 0, api.ErrSum)
		}
	}
}

func TestGetReadsNoSpareRoom(t *testing.T) {
	framed := frameOf([]byte("span"))
	for left := range framed {
		want := api.ErrShort
		if left == 0 {
			want = api.ErrNone
		}
		checkRefused(t, fmt.Sprintf("%d bytes of a frame, the others in spare room", left), framed[:left], 0, want)
	}
}

// mixed are frames with what is no frame between them, and bytes that look like heads.
func mixed() [][]byte {
	r := rand.New(rand.NewSource(6))
	var l [][]byte
	for range 60 {
		var b []byte
		for range 1 + r.Intn(6) {
			framed := frameOf(some(1 + r.Intn(40)))
			switch r.Intn(5) {
			case 0:
				framed[r.Intn(len(framed))] ^= 1 << r.Intn(8)
			case 1:
				framed = framed[:r.Intn(len(framed))]
			case 2:
				framed = make([]byte, r.Intn(12))
			}
			b = append(b, framed...)
		}
		l = append(l, b)
	}
	return l
}

func TestGetEachPlace(t *testing.T) {
	for _, b := range mixed() {
		for at := -2; at <= len(b)+2; at++ {
			checkGet(t, b, at)
		}
	}
}

func TestGetOneWay(t *testing.T) {
	read := 0
	for _, b := range mixed() {
		for at := range b {
			body, next, e := Get(b, at)
			if e != api.OK {
				continue
			}
			read++
			if again, e := Put(body); e != api.OK || !bytes.Equal(again, b[at:next]) {
				t.Errorf("%x is read from other bytes than its own frame: %x", body, b[at:next])
			}
		}
	}
	if read < 60 {
		t.Errorf("%d read: this holds too little", read)
	}
}

// laid are bodies' frames, one behind the other, and the place behind each of them.
func laid(l [][]byte) (b []byte, ends []int) {
	for _, body := range l {
		b = append(b, frameOf(body)...)
		ends = append(ends, len(b))
	}
	return b, ends
}

func TestAllOfThem(t *testing.T) {
	l := bodies()
	b, ends := laid(l)
	for i := range l {
		start := 0
		if i > 0 {
			start = ends[i-1]
		}
		got, next := All(b, start, len(l))
		if !slices.EqualFunc(got, l[i:], bytes.Equal) || next != len(b) {
			t.Errorf("from body %d on: %d bodies, next %d", i, len(got), next)
		}
	}
}

func TestAllMost(t *testing.T) {
	l := bodies()
	b, ends := laid(l)
	for most := 1; most <= len(l); most++ {
		got, next := All(b, 0, most)
		if !slices.EqualFunc(got, l[:most], bytes.Equal) || next != ends[most-1] {
			t.Errorf("%d at most: %d bodies, next %d", most, len(got), next)
		}
	}
	for _, most := range []int{len(l) + 1, 1 << 20, 1 << 40, math.MaxInt} {
		if got, next := All(b, 0, most); len(got) != len(l) || next != len(b) {
			t.Errorf("%d at most: %d bodies, next %d", most, len(got), next)
		}
	}
	for _, most := range []int{0, -1, -2, math.MinInt32, math.MinInt} {
		for _, at := range []int{0, ends[0], 5, len(b), -7, math.MinInt, math.MaxInt} {
			if got, next := All(b, at, most); len(got) != 0 || next != at {
				t.Errorf("%d at most from %d on: %d bodies, next %d", most, at, len(got), next)
			}
		}
	}
}

func TestAllOfNone(t *testing.T) {
	framed := frameOf([]byte("span"))
	for _, b := range [][]byte{nil, {}, {1}, make([]byte, 5), make([]byte, 6), framed[:9], framed[1:]} {
		for _, at := range []int{math.MinInt, -7, -1, 0, 1, len(b), len(b) + 1, 1 << 40, math.MaxInt} {
			if got, next := All(b, at, 9); len(got) != 0 || next != at {
				t.Errorf("of %d bytes from %d on: %d bodies, next %d", len(b), at, len(got), next)
			}
		}
	}
}

// TestAllStopsAtTheFirstRefused has a good frame behind each that is refused: it must not be found.
func TestAllStopsAtTheFirstRefused(t *testing.T) {
	good, other := frameOf([]byte("span")), frameOf([]byte("other"))
	otherSum := slices.Clone(other)
	otherSum[6] ^= 1
	for _, refused := range [][]byte{otherSum, frameThatTells(0, nil), frameThatTells(maxBody+1, some(maxBody+1)), {9}, other[:8]} {
		b := slices.Concat(good, good, refused, good)
		got, next := All(b, 0, 9)
		if len(got) != 2 || next != 2*len(good) || string(got[1]) != "span" {
			t.Errorf("ahead of %v: %d bodies, next %d", refused, len(got), next)
		}
	}
}

func TestAllEachPlace(t *testing.T) {
	for _, b := range mixed() {
		for at := -2; at <= len(b)+2; at++ {
			for _, most := range []int{-1, 0, 1, 2, 9} {
				checkAll(t, b, at, most)
			}
		}
	}
}

// TestCutOff is P6.2: of frames that are cut off anywhere, just those are found that are whole.
func TestCutOff(t *testing.T) {
	for _, l := range [][][]byte{
		{[]byte("a")},
		{[]byte("a"), []byte("a"), []byte("a")},
		{make([]byte, 1), make([]byte, 2), make([]byte, 50)},
		{some(1), some(260), some(7), frameOf([]byte("span")), some(33)},
		{some(maxBody), some(1), some(maxBody)},
	} {
		b, ends := laid(l)
		for left := range len(b) + 1 {
			whole, next := 0, 0
			for whole < len(ends) && ends[whole] <= left {
				next = ends[whole]
				whole++
			}
			got, gotNext := All(b[:left], 0, len(l)+1)
			if !slices.EqualFunc(got, l[:whole], bytes.Equal) || gotNext != next {
				t.Fatalf("%d of %d bytes: %d bodies, next %d; want %d, next %d", left, len(b), len(got), gotNext, whole, next)
			}
		}
	}
}

func TestPutLeavesItsArgument(t *testing.T) {
	room := bytes.Repeat([]byte{5}, 100)
	kept := slices.Clone(room)
	out, _ := Put(room[:40])
	want := slices.Clone(out)
	if !bytes.Equal(room, kept) {
		t.Error("what was handed in has changed, or its spare room")
	}
	for i := range room {
		room[i] = 6
	}
	if !bytes.Equal(out, want) {
		t.Error("writing into what was handed in changes the answer")
	}
	clear(out[:cap(out)])
	if !bytes.Equal(room, bytes.Repeat([]byte{6}, 100)) {
		t.Error("writing into the answer changes what was handed in")
	}
}

func TestGetsLeaveTheirArgument(t *testing.T) {
	l := [][]byte{[]byte("span"), []byte("other"), []byte("third")}
	b, ends := laid(l)
	kept := slices.Clone(b)
	one, _, _ := Get(b, ends[0])
	all, _ := All(b, 0, 9)
	if !bytes.Equal(b, kept) {
		t.Fatal("the bytes that were read have changed")
	}
	clear(b)
	if string(one) != "other" || !slices.EqualFunc(all, l, bytes.Equal) {
		t.Error("writing into the bytes that were read changes the answer")
	}
}

func TestAnswersAreNewMemory(t *testing.T) {
	l := [][]byte{[]byte("span"), []byte("other"), []byte("third")}
	b, _ := laid(l)
	kept := slices.Clone(b)
	one, _, _ := Get(b, 0)
	clear(one[:cap(one)])
	for i := range l {
		all, _ := All(b, 0, 9)
		clear(all[i][:cap(all[i])])
		for k := range l {
			if k != i && !bytes.Equal(all[k], l[k]) {
				t.Errorf("writing into body %d changes body %d", i, k)
			}
		}
	}
	if !bytes.Equal(b, kept) {
		t.Error("writing into an answer changes what was handed in")
	}
}
