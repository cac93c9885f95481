package simfs

import (
	"bytes"
	"fmt"
	"math"
	"math/rand"
	"slices"
	"strings"
	"testing"

	"merkhet/api"
)

// step is an act, with what it has to answer.
type step struct {
	what string
	do   func(f *FS) api.Errno
	want api.Errno
}

func create(n uint32, want api.Errno) step {
	return step{fmt.Sprint("create ", n), func(f *FS) api.Errno { return f.Create(n) }, want}
}

func put(n uint32, b string, want api.Errno) step {
	return step{fmt.Sprintf("append %d %q", n, b), func(f *FS) api.Errno { return f.Append(n, []byte(b)) }, want}
}

func cut(n uint32, size int, want api.Errno) step {
	return step{fmt.Sprint("truncate ", n, " ", size), func(f *FS) api.Errno { return f.Truncate(n, size) }, want}
}

func sync(n uint32, want api.Errno) step {
	return step{fmt.Sprint("sync ", n), func(f *FS) api.Errno { return f.Sync(n) }, want}
}

func remove(n uint32, want api.Errno) step {
	return step{fmt.Sprint("remove ", n), func(f *FS) api.Errno { return f.Remove(n) }, want}
}

// run does acts one behind the other.
func run(t *testing.T, f *FS, steps ...step) {
	t.Helper()
	for i, s := range steps {
		if e := s.do(f); e != s.want {
			t.Fatalf("act %d, %s: %v, want %v", i, s.what, e, s.want)
		}
	}
}

// holdFile tells where a file doesn't have the bytes it should have.
func holdFile(t *testing.T, f *FS, n uint32, want string) {
	t.Helper()
	if b, e := f.Read(n); e != api.OK || string(b) != want {
		t.Errorf("file %d: %q %v, want %q", n, b, e, want)
	}
}

// holdNone tells where there is a file that shouldn't be.
func holdNone(t *testing.T, f *FS, n uint32) {
	t.Helper()
	if b, e := f.Read(n); e != api.ErrNone || len(b) != 0 {
		t.Errorf("file %d: %q %v, want none", n, b, e)
	}
}

// holdNumbers tells where other files are there, or unsafe, than should be.
func holdNumbers(t *testing.T, f *FS, list, unsafe []uint32) {
	t.Helper()
	if l, u := f.List(), f.Unsafe(); !slices.Equal(l, list) || !slices.Equal(u, unsafe) {
		t.Errorf("there are %v, unsafe %v, want %v and %v", l, u, list, unsafe)
	}
}

// full is a file system with as many files as may be made, safe, from 0 on.
func full(t *testing.T) *FS {
	f := New()
	for n := range uint32(64) {
		run(t, f, create(n, api.OK), put(n, "abc", api.OK), sync(n, api.OK))
	}
	return f
}

func TestExample(t *testing.T) {
	for _, garble := range [][]byte{nil, {1}, {0x55, 0xff}} {
		f := New()
		run(t, f, create(1, api.OK), put(1, "ab", api.OK), sync(1, api.OK), put(1, "cd", api.OK))
		f.Crash([]api.Fate{{Bytes: 1, Garble: garble}})
		c := byte('c')
		if len(garble) > 0 {
			c ^= garble[0]
		}
		holdFile(t, f, 1, "ab"+string([]byte{c}))
		holdNumbers(t, f, []uint32{1}, nil)
	}
}

func TestNew(t *testing.T) {
	f := New()
	holdNumbers(t, f, nil, nil)
	if f.Down() {
		t.Error("a new one is down")
	}
	for _, n := range []uint32{0, 1, math.MaxUint32} {
		holdNone(t, f, n)
		run(t, f, put(n, "a", api.ErrNone), put(n, "", api.ErrNone), cut(n, 0, api.ErrNone), cut(n, -1, api.ErrNone), sync(n, api.ErrNone), remove(n, api.ErrNone))
	}
	run(t, f, create(0, api.OK))
	for range 1000 {
		run(t, f, put(0, "a", api.OK), sync(0, api.OK))
	}
	holdNumbers(t, New(), nil, nil)
}

func TestCreate(t *testing.T) {
	f := New()
	for _, n := range []uint32{5, 0, math.MaxUint32, 1 << 31} {
		run(t, f, create(n, api.OK), create(n, api.ErrState))
		holdFile(t, f, n, "")
	}
	all := []uint32{0, 5, 1 << 31, math.MaxUint32}
	holdNumbers(t, f, all, all)
	run(t, f, put(5, "abc", api.OK), create(5, api.ErrState), sync(5, api.OK), create(5, api.ErrState))
	holdFile(t, f, 5, "abc")
	run(t, f, remove(5, api.OK), create(5, api.ErrState), sync(5, api.OK), create(5, api.OK))
	holdFile(t, f, 5, "")
	run(t, f, remove(0, api.OK), create(0, api.OK), remove(0, api.OK))
	holdNumbers(t, f, all[1:], all[1:])
}

func TestCreateHowMany(t *testing.T) {
	f := full(t)
	run(t, f, create(64, api.ErrFull), create(math.MaxUint32, api.ErrFull), create(63, api.ErrState))
	run(t, f, remove(7, api.OK), create(7, api.ErrState), create(64, api.OK), create(65, api.ErrFull))
	run(t, f, create(7, api.ErrState), remove(64, api.OK), sync(7, api.OK), create(7, api.OK), create(64, api.ErrFull))
}

func TestMoreFilesThanMayBeMade(t *testing.T) {
	f := full(t)
	var want []uint32
	for n := range uint32(10) {
		run(t, f, remove(n, api.OK), create(100+n, api.OK), sync(100+n, api.OK))
		want = append(want, 100+n)
	}
	run(t, f, create(200, api.ErrFull))
	f.Crash(nil)
	for n := range uint32(64) {
		want = append(want, n)
		holdFile(t, f, n, "abc")
	}
	slices.Sort(want)
	holdNumbers(t, f, want, nil)
	for n := range uint32(10) {
		run(t, f, create(200, api.ErrFull), create(n, api.ErrState), remove(n, api.OK))
	}
	run(t, f, create(200, api.ErrFull), remove(10, api.OK), create(200, api.OK), create(201, api.ErrFull))
}

func TestAppend(t *testing.T) {
	f := New()
	run(t, f, create(3, api.OK), put(3, "", api.OK), put(3, "ab", api.OK), put(3, "\x00\xff", api.OK), put(4, "cd", api.ErrNone))
	holdFile(t, f, 3, "ab\x00\xff")
	run(t, f, sync(3, api.OK), put(3, "", api.OK))
	holdNumbers(t, f, []uint32{3}, nil)
	run(t, f, put(3, "c", api.OK))
	holdNumbers(t, f, []uint32{3}, []uint32{3})
	holdFile(t, f, 3, "ab\x00\xffc")
	run(t, f, remove(3, api.OK), put(3, "d", api.ErrNone))
	holdNone(t, f, 3)
}

func TestTruncate(t *testing.T) {
	f := New()
	run(t, f, create(3, api.OK), cut(3, 0, api.OK), cut(3, 1, api.ErrRange), put(3, "abcdef", api.OK), sync(3, api.OK))
	for _, size := range []int{-1, 7, 8, math.MinInt, math.MinInt32, math.MaxInt32, 1 << 32, math.MaxInt} {
		run(t, f, cut(3, size, api.ErrRange), cut(4, size, api.ErrNone))
	}
	run(t, f, cut(3, 6, api.OK))
	holdFile(t, f, 3, "abcdef")
	holdNumbers(t, f, []uint32{3}, nil)
	for _, size := range []int{5, 5, 2, 0} {
		run(t, f, cut(3, size, api.OK), cut(3, size+1, api.ErrRange))
		holdFile(t, f, 3, "abcdef"[:size])
		holdNumbers(t, f, []uint32{3}, []uint32{3})
	}
	run(t, f, put(3, "abcde", api.OK))
	holdNumbers(t, f, []uint32{3}, []uint32{3})
	run(t, f, put(3, "f", api.OK))
	holdNumbers(t, f, []uint32{3}, nil)
	run(t, f, remove(3, api.OK), cut(3, 0, api.ErrNone), cut(3, -1, api.ErrNone))
}

func TestSync(t *testing.T) {
	f := New()
	run(t, f, create(3, api.OK), sync(3, api.OK), sync(3, api.OK), put(3, "ab", api.OK))
	holdNumbers(t, f, []uint32{3}, []uint32{3})
	run(t, f, sync(3, api.OK))
	holdNumbers(t, f, []uint32{3}, nil)
	holdFile(t, f, 3, "ab")
	run(t, f, remove(3, api.OK))
	holdNumbers(t, f, nil, []uint32{3})
	run(t, f, sync(3, api.OK), sync(3, api.ErrNone))
	holdNumbers(t, f, nil, nil)
	f.Crash(nil)
	holdNone(t, f, 3)
}

func TestRemove(t *testing.T) {
	f := New()
	run(t, f, create(3, api.OK), put(3, "ab", api.OK), remove(3, api.OK), remove(3, api.ErrNone), sync(3, api.ErrNone))
	holdNumbers(t, f, nil, nil)
	run(t, f, create(3, api.OK))
	holdFile(t, f, 3, "")
	run(t, f, sync(3, api.OK), remove(3, api.OK), remove(3, api.ErrNone))
	holdNone(t, f, 3)
	holdNumbers(t, f, nil, []uint32{3})
}

func TestNumbersRise(t *testing.T) {
	f := New()
	var want []uint32
	for i := range uint32(60) {
		n := i * 0x9e3779b1
		run(t, f, create(n, api.OK))
		want = append(want, n)
	}
	slices.Sort(want)
	for range 20 {
		holdNumbers(t, f, want, want)
	}
}

// acts are one of each that isn't refused by prepared, and what then is there.
func acts() []step {
	return []step{create(9, api.OK), put(1, "x", api.OK), put(1, "", api.OK), cut(1, 1, api.OK), sync(1, api.OK), sync(2, api.OK), remove(1, api.OK), remove(3, api.OK)}
}

// refused are acts that prepared refuses.
func refused() []step {
	return []step{create(1, api.ErrState), create(2, api.ErrState), put(2, "x", api.ErrNone), cut(2, 0, api.ErrNone), cut(1, 5, api.ErrRange), cut(1, -1, api.ErrRange), sync(7, api.ErrNone), remove(2, api.ErrNone), remove(7, api.ErrNone)}
}

// prepared has a safe file 1 with bytes behind, a removed one 2, one 3 that wasn't safe, and one 5 of which nothing is unsafe.
func prepared(t *testing.T) *FS {
	f := New()
	run(t, f, create(1, api.OK), put(1, "ab", api.OK), sync(1, api.OK), put(1, "cd", api.OK), create(2, api.OK), sync(2, api.OK), remove(2, api.OK), create(3, api.OK), create(5, api.OK), sync(5, api.OK))
	return f
}

// idle is an act that counts and changes nothing of prepared.
func idle(want api.Errno) step {
	return put(5, "", want)
}

// sight is all that the calls tell of a file system without changing it.
func sight(f *FS) string {
	s := fmt.Sprint(f.Down(), f.List(), f.Unsafe())
	for _, n := range f.List() {
		b, e := f.Read(n)
		s += fmt.Sprintf(" %d %q %v", n, b, e)
	}
	return s
}

// wholeSight is sight, and what crashes of several fates would leave.
func wholeSight(f *FS) string {
	s := sight(f)
	for _, fate := range []api.Fate{{}, {Keep: true}, {Bytes: 1}, {Keep: true, Bytes: 1}, {Bytes: 99}, {Keep: true, Bytes: 99}} {
		g := f.Copy()
		g.Crash(slices.Repeat([]api.Fate{fate}, len(f.Unsafe())))
		s += "; " + sight(g)
	}
	return s
}

func TestRefusedChangesNothing(t *testing.T) {
	f := prepared(t)
	want := wholeSight(f)
	for _, s := range refused() {
		run(t, f, s)
		if got := wholeSight(f); got != want {
			t.Errorf("%s: %s, want %s", s.what, got, want)
		}
	}
}

func TestFuseCounts(t *testing.T) {
	for fuse := range 12 {
		f := New()
		run(t, f, create(1, api.OK))
		f.Fuse(fuse)
		for i := range fuse {
			run(t, f, put(1, string(rune('a'+i)), api.OK))
			if f.Down() {
				t.Fatalf("fuse %d: down behind %d acts", fuse, i+1)
			}
		}
		run(t, f, put(1, "!", api.ErrDown))
		if !f.Down() {
			t.Errorf("fuse %d: isn't down", fuse)
		}
		holdFile(t, f, 1, "abcdefghijkl"[:fuse]+"!")
	}
}

// TestFall has each act be the one at which it falls: it is done, but for a Sync.
func TestFall(t *testing.T) {
	for _, s := range acts() {
		for fuse := range 3 {
			f, g := prepared(t), prepared(t)
			if !strings.HasPrefix(s.what, "sync") {
				run(t, g, s)
			}
			g.Fuse(0)
			run(t, g, idle(api.ErrDown))
			f.Fuse(fuse)
			for range fuse {
				run(t, f, idle(api.OK))
			}
			if e := s.do(f); e != api.ErrDown {
				t.Errorf("%s at fuse %d: %v", s.what, fuse, e)
			}
			if got, want := wholeSight(f), wholeSight(g); got != want {
				t.Errorf("%s at fuse %d: %s, want %s", s.what, fuse, got, want)
			}
		}
	}
}

func TestFallAtRemoveOfWhatWasNotSafe(t *testing.T) {
	f := New()
	run(t, f, create(3, api.OK))
	f.Fuse(0)
	run(t, f, remove(3, api.ErrDown))
	holdNumbers(t, f, nil, nil)
}

func TestEachActCounts(t *testing.T) {
	for _, s := range acts() {
		f := prepared(t)
		f.Fuse(1)
		run(t, f, s, create(10, api.ErrDown))
	}
}

func TestRefusedDoesNotCount(t *testing.T) {
	f := prepared(t)
	for _, fuse := range []int{0, 1} {
		f.Fuse(fuse)
		for range 5 {
			run(t, f, refused()...)
		}
		if f.Down() {
			t.Fatal("refused acts count")
		}
	}
	run(t, f, idle(api.OK))
	run(t, f, refused()...)
	run(t, f, idle(api.ErrDown))
	g := full(t)
	g.Fuse(0)
	run(t, g, create(64, api.ErrFull), create(3, api.ErrState), remove(3, api.ErrDown))
}

func TestLooksDoNotCount(t *testing.T) {
	f := prepared(t)
	f.Fuse(1)
	for range 5 {
		f.Read(1)
		f.Read(7)
		f.List()
		f.Unsafe()
		f.Down()
		f.Copy()
	}
	run(t, f, put(1, "x", api.OK), put(1, "y", api.ErrDown))
}

func TestFuseSetAgain(t *testing.T) {
	f := New()
	run(t, f, create(1, api.OK))
	for _, never := range []int{-1, -2, math.MinInt32, math.MinInt} {
		f.Fuse(0)
		f.Fuse(never)
		for range 100 {
			run(t, f, put(1, "x", api.OK))
		}
	}
	f.Fuse(math.MaxInt)
	run(t, f, cut(1, 0, api.OK), sync(1, api.OK))
	for range 10 {
		f.Fuse(2)
		run(t, f, put(1, "x", api.OK), put(1, "y", api.OK))
	}
	run(t, f, put(1, "z", api.ErrDown))
}

func TestDown(t *testing.T) {
	f := prepared(t)
	f.Fuse(0)
	run(t, f, put(1, "e", api.ErrDown))
	want := wholeSight(f)
	for _, fuse := range []int{0, -1, 3} {
		for _, s := range slices.Concat(acts(), refused()) {
			s.want = api.ErrDown
			run(t, f, s)
		}
		f.Fuse(fuse)
	}
	if got := wholeSight(f); got != want {
		t.Errorf("acts on one that is down: %s, want %s", got, want)
	}
	if !f.Down() {
		t.Error("a fuse brings it up")
	}
	holdFile(t, f, 1, "abcde")
	holdNone(t, f, 2)
	holdNumbers(t, f, []uint32{1, 3, 5}, []uint32{1, 2, 3})
	if !f.Copy().Down() {
		t.Error("its copy isn't down")
	}
}

func TestCrashTakesTheFuseAway(t *testing.T) {
	for _, fall := range []bool{true, false} {
		f := prepared(t)
		if fall {
			f.Fuse(0)
			run(t, f, put(1, "e", api.ErrDown))
		}
		f.Fuse(1)
		f.Crash(nil)
		if f.Down() {
			t.Error("down behind a crash")
		}
		holdNumbers(t, f, []uint32{1, 2, 5}, nil)
		for range 10 {
			run(t, f, put(1, "x", api.OK))
		}
	}
}

// torn is what has to be left: the first bytes of it, and so many of those behind, the last 16 of these at most garbled. It goes from byte to byte.
func torn(b string, first int, fate api.Fate) string {
	left := []byte(b[:first])
	for i := first; i < len(b) && i-first < fate.Bytes; i++ {
		left = append(left, b[i])
	}
	begin := first
	if len(left)-first > 16 {
		begin = len(left) - 16
	}
	for i, g := range fate.Garble {
		if begin+i < len(left) {
			left[begin+i] ^= g
		}
	}
	return string(left)
}

// fates are many, with and without Keep.
func fates() []api.Fate {
	var l []api.Fate
	for _, keep := range []bool{false, true} {
		for _, size := range []int{math.MinInt, -1, 0, 1, 2, 3, 15, 16, 17, 30, 31, 32, 33, 40, 100, math.MaxInt - 1, math.MaxInt} {
			for _, garble := range []int{0, 1, 2, 15, 16, 17, 40} {
				l = append(l, api.Fate{Keep: keep, Bytes: size, Garble: bytes.Repeat([]byte{0x5a, 0, 0xff}, garble)[:garble]})
			}
		}
	}
	return l
}

// texts are some of many lengths, no two bytes beside one another alike.
func texts() []string {
	var l []string
	for _, size := range []int{0, 1, 2, 15, 16, 17, 31, 32, 33, 50} {
		b := make([]byte, size)
		for i := range b {
			b[i] = byte(3*i + 1)
		}
		l = append(l, string(b))
	}
	return l
}

// holdCrash tells where a crash of one number leaves something else, or something that isn't safe.
func holdCrash(t *testing.T, what string, f *FS, fate api.Fate, there bool, want string) {
	t.Helper()
	f.Crash([]api.Fate{fate})
	b, e := f.Read(4)
	if (e == api.OK) != there || string(b) != want {
		t.Errorf("%s, fate %v: %q %v, want %v %q", what, fate, b, e, there, want)
	}
	if u := f.Unsafe(); len(u) != 0 {
		t.Errorf("%s, fate %v: unsafe behind it: %v", what, fate, u)
	}
	f.Crash([]api.Fate{{Keep: !fate.Keep, Bytes: 1, Garble: []byte{1}}})
	if again, _ := f.Read(4); !bytes.Equal(again, b) {
		t.Errorf("%s, fate %v: a second crash: %q, want %q", what, fate, again, b)
	}
}

func TestCrashOfWhatWasNotSafe(t *testing.T) {
	for _, b := range texts() {
		for _, fate := range fates() {
			f := New()
			run(t, f, create(4, api.OK), put(4, b, api.OK))
			if fate.Keep {
				holdCrash(t, "not safe", f, fate, true, torn(b, 0, fate))
				continue
			}
			holdCrash(t, "not safe", f, fate, false, "")
		}
	}
}

func TestCrashOfWhatIsNotThereAnyMore(t *testing.T) {
	for _, b := range texts() {
		for _, fate := range fates() {
			f := New()
			run(t, f, create(4, api.OK), put(4, b, api.OK), sync(4, api.OK), put(4, "more", api.OK), remove(4, api.OK))
			if fate.Keep {
				holdCrash(t, "removed", f, fate, false, "")
				continue
			}
			holdCrash(t, "removed", f, fate, true, b)
		}
	}
}

func TestCrashOfWhatWasAppendedTo(t *testing.T) {
	for _, safe := range texts() {
		for _, more := range texts()[1:] {
			for _, fate := range fates() {
				f := New()
				run(t, f, create(4, api.OK), put(4, safe, api.OK), sync(4, api.OK), put(4, more, api.OK))
				holdCrash(t, "appended to", f, fate, true, torn(safe+more, len(safe), fate))
			}
		}
	}
}

func TestCrashOfWhatBeginsOtherwise(t *testing.T) {
	for _, safe := range texts()[1:] {
		for _, shared := range []int{0, 1, len(safe) / 2, len(safe) - 1} {
			for _, more := range texts() {
				if shared >= len(safe) || more != "" && safe[shared] == more[0] {
					continue
				}
				for _, fate := range fates() {
					f := New()
					run(t, f, create(4, api.OK), put(4, safe, api.OK), sync(4, api.OK), cut(4, shared, api.OK), put(4, more, api.OK))
					want := safe
					if fate.Keep {
						want = torn(safe[:shared]+more, shared, fate)
					}
					holdCrash(t, "begins otherwise", f, fate, true, want)
				}
			}
		}
	}
}

// TestCrashGoesByTheBytes cuts off what is safe and lays it again: what both begin with is told by the bytes, not by the acts.
func TestCrashGoesByTheBytes(t *testing.T) {
	f := New()
	run(t, f, create(4, api.OK), put(4, "abcd", api.OK), sync(4, api.OK), cut(4, 1, api.OK), put(4, "bcXY", api.OK))
	holdCrash(t, "laid again", f.Copy(), api.Fate{Keep: true, Bytes: 1, Garble: []byte{1, 1}}, true, "abcY")
	run(t, f, cut(4, 1, api.OK), put(4, "bcdef", api.OK))
	holdCrash(t, "laid again", f.Copy(), api.Fate{Bytes: 1, Garble: []byte{1, 1}}, true, "abcdd")
	run(t, f, cut(4, 4, api.OK))
	holdCrash(t, "as it was", f.Copy(), api.Fate{Keep: true, Garble: []byte{1, 1}}, true, "abcd")
}

// TestFatesByNumber has the unsafe numbers take fates as they rise, not as they were made.
func TestFatesByNumber(t *testing.T) {
	f := New()
	for _, n := range []uint32{9, 4, math.MaxUint32, 7, 0, 2} {
		run(t, f, create(n, api.OK), put(n, "abcdefgh", api.OK))
	}
	run(t, f, sync(4, api.OK), sync(2, api.OK), remove(2, api.OK))
	f.Crash([]api.Fate{{Keep: true, Bytes: 1}, {Keep: true, Bytes: 2}, {Keep: true, Bytes: 3}, {Keep: true, Bytes: 4, Garble: []byte{'a' ^ 'A'}}})
	holdFile(t, f, 0, "a")
	holdNone(t, f, 2)
	holdFile(t, f, 4, "abcdefgh")
	holdFile(t, f, 7, "abc")
	holdFile(t, f, 9, "Abcd")
	holdNone(t, f, math.MaxUint32)
	holdNumbers(t, f, []uint32{0, 4, 7, 9}, nil)
}

func TestMoreFatesThanNumbers(t *testing.T) {
	f := prepared(t)
	keep := api.Fate{Keep: true, Bytes: 1, Garble: []byte{1}}
	f.Crash(slices.Repeat([]api.Fate{keep}, 50))
	holdFile(t, f, 1, "abb")
	holdNone(t, f, 2)
	holdFile(t, f, 3, "")
	f.Crash(slices.Repeat([]api.Fate{keep}, 50))
	holdFile(t, f, 1, "abb")
	holdNumbers(t, f, []uint32{1, 3, 5}, nil)
}

func TestCopy(t *testing.T) {
	f := prepared(t)
	f.Fuse(2)
	run(t, f, put(1, "e", api.OK))
	want := wholeSight(f)
	g := f.Copy()
	if got := wholeSight(g); got != want {
		t.Errorf("%s, want %s", got, want)
	}
	run(t, g, put(1, "x", api.OK), remove(3, api.ErrDown))
	if got := wholeSight(f); got != want {
		t.Errorf("the copy goes on, and the other one with it: %s, want %s", got, want)
	}
	run(t, f, put(1, "y", api.OK), create(8, api.ErrDown))
	holdFile(t, f, 1, "abcdey")
	holdFile(t, g, 1, "abcdex")
	f.Crash(nil)
	if !g.Down() {
		t.Error("a crash of one brings its copy up")
	}
	holdNumbers(t, f, []uint32{1, 2, 5}, nil)
	holdNumbers(t, g, []uint32{1, 5}, []uint32{1, 2})
}

func TestNothingIsChangedOrKept(t *testing.T) {
	f := New()
	room := []byte("abcdef")
	run(t, f, create(1, api.OK))
	f.Append(1, room[:3])
	if string(room) != "abcdef" {
		t.Errorf("what was handed in has changed: %q", room)
	}
	clear(room)
	holdFile(t, f, 1, "abc")
	run(t, f, sync(1, api.OK))
	read, _ := f.Read(1)
	clear(read[:cap(read)])
	run(t, f, put(1, "de", api.OK), cut(1, 4, api.OK), put(1, "E", api.OK))
	holdFile(t, f, 1, "abcdE")
	clear(f.List())
	clear(f.Unsafe())
	holdNumbers(t, f, []uint32{1}, []uint32{1})
	l := []api.Fate{{Bytes: 2, Garble: []byte{1, 0, 7}}}
	f.Crash(l)
	if len(l) != 1 || l[0].Keep || l[0].Bytes != 2 || !bytes.Equal(l[0].Garble, []byte{1, 0, 7}) {
		t.Errorf("the fates have changed: %v", l)
	}
	clear(l[0].Garble)
	holdFile(t, f, 1, "abceE")
}

// TestSyncKeepsWhatWasThere has later acts reach what is safe, if they share its memory.
func TestSyncKeepsWhatWasThere(t *testing.T) {
	f := New()
	run(t, f, create(1, api.OK), put(1, "abcd", api.OK), sync(1, api.OK), cut(1, 0, api.OK), put(1, "xy", api.OK))
	g := f.Copy()
	run(t, f, cut(1, 1, api.OK), put(1, "zzz", api.OK))
	holdFile(t, g, 1, "xy")
	f.Crash(nil)
	g.Crash(nil)
	holdFile(t, f, 1, "abcd")
	holdFile(t, g, 1, "abcd")
}

// model is a file system told over again, plainly: what is there, and what is safe, each with a place for each of a few numbers (nil: no file).
type model struct {
	now, safe [6]*string
	fuse      int
	down      bool
}

func (m *model) unsafe(n uint32) bool {
	a, b := m.now[n], m.safe[n]
	return (a == nil) != (b == nil) || a != nil && *a != *b
}

// refusal is why an act is refused.
func (m *model) refusal(act string, n uint32, size int) api.Errno {
	there := m.now[n] != nil
	switch {
	case m.down:
		return api.ErrDown
	case act == "create" && (there || m.unsafe(n)):
		return api.ErrState
	case act == "sync" && !there && !m.unsafe(n):
		return api.ErrNone
	case act != "create" && act != "sync" && !there:
		return api.ErrNone
	case act == "truncate" && (size < 0 || size > len(*m.now[n])):
		return api.ErrRange
	}
	return api.OK
}

// do does an act, if it isn't refused.
func (m *model) do(act string, n uint32, b string, size int) api.Errno {
	if e := m.refusal(act, n, size); e != api.OK {
		return e
	}
	if m.fuse == 0 {
		m.down = true
	}
	m.fuse--
	var bytes string
	if m.now[n] != nil {
		bytes = *m.now[n]
	}
	switch act {
	case "create":
		m.now[n] = new(string)
	case "append":
		bytes += b
		m.now[n] = &bytes
	case "truncate":
		bytes = bytes[:size]
		m.now[n] = &bytes
	case "remove":
		m.now[n] = nil
	case "sync":
		if !m.down {
			m.safe[n] = m.now[n]
		}
	}
	if m.down {
		return api.ErrDown
	}
	return api.OK
}

// left is what a crash leaves of an unsafe number.
func (m *model) left(n uint32, fate api.Fate) *string {
	now, safe := m.now[n], m.safe[n]
	if now == nil || safe == nil {
		if (now == nil) == fate.Keep {
			return nil
		}
		if now == nil {
			return safe
		}
		b := torn(*now, 0, fate)
		return &b
	}
	both := 0
	for both < len(*now) && both < len(*safe) && (*now)[both] == (*safe)[both] {
		both++
	}
	if both < len(*safe) && !fate.Keep {
		return safe
	}
	b := torn(*now, both, fate)
	return &b
}

func (m *model) crash(l []api.Fate) {
	for n := range uint32(6) {
		if !m.unsafe(n) {
			continue
		}
		var fate api.Fate
		if len(l) > 0 {
			fate, l = l[0], l[1:]
		}
		m.now[n] = m.left(n, fate)
	}
	m.safe, m.fuse, m.down = m.now, -1, false
}

// sight is as that of the file system it tells over.
func (m *model) sight() string {
	list, unsafe := []uint32{}, []uint32{}
	files := ""
	for n := range uint32(6) {
		if m.unsafe(n) {
			unsafe = append(unsafe, n)
		}
		if m.now[n] != nil {
			list = append(list, n)
			files += fmt.Sprintf(" %d %q %v", n, *m.now[n], api.OK)
		}
	}
	return fmt.Sprint(m.down, list, unsafe) + files
}

func drawnBytes(r *rand.Rand, size int) []byte {
	b := make([]byte, r.Intn(size+1))
	for i := range b {
		b[i] = byte('a' + r.Intn(2))
	}
	return b
}

func drawnFates(r *rand.Rand) []api.Fate {
	l := make([]api.Fate, r.Intn(7))
	for i := range l {
		l[i] = api.Fate{Keep: r.Intn(2) == 0, Bytes: r.Intn(50) - 5, Garble: drawnBytes(r, 20)}
	}
	return l
}

// both does one drawn call of both, and tells whether they answer alike.
func both(r *rand.Rand, f **FS, m *model) (what string, got, want api.Errno) {
	n, b, size := uint32(r.Intn(6)), drawnBytes(r, 25), r.Intn(40)-3
	switch k := r.Intn(20); {
	case k < 4:
		return "create", (*f).Create(n), m.do("create", n, "", 0)
	case k < 9:
		return "append", (*f).Append(n, b), m.do("append", n, string(b), 0)
	case k < 11:
		return "truncate", (*f).Truncate(n, size), m.do("truncate", n, "", size)
	case k < 14:
		return "sync", (*f).Sync(n), m.do("sync", n, "", 0)
	case k < 16:
		return "remove", (*f).Remove(n), m.do("remove", n, "", 0)
	case k < 17:
		fuse := r.Intn(12) - 2
		(*f).Fuse(fuse)
		m.fuse = fuse
		return "fuse", api.OK, api.OK
	case k < 18:
		*f = (*f).Copy()
		return "copy", api.OK, api.OK
	}
	l := drawnFates(r)
	(*f).Crash(l)
	m.crash(l)
	return "crash", api.OK, api.OK
}

// TestEveryOrderOfCalls does many drawn calls, and holds all that is told behind each against the model.
func TestEveryOrderOfCalls(t *testing.T) {
	r := rand.New(rand.NewSource(6))
	for range 300 {
		f, m := New(), &model{fuse: -1}
		var done []string
		for range 120 {
			what, got, want := both(r, &f, m)
			done = append(done, fmt.Sprint(what, " ", got))
			if a, b := sight(f), m.sight(); got != want || a != b {
				t.Fatalf("%v: %v, want %v: %s, want %s", done, got, want, a, b)
			}
		}
	}
}

// TestSafeStays is P5.2: what is safe and not acted upon since is there behind any crash, whatever becomes of others.
func TestSafeStays(t *testing.T) {
	r := rand.New(rand.NewSource(7))
	for range 300 {
		f := New()
		want := string(drawnBytes(r, 60))
		run(t, f, create(3, api.OK), put(3, want, api.OK), sync(3, api.OK))
		for range 30 {
			for range r.Intn(10) {
				other := []uint32{0, 1, 2, 4, 5}[r.Intn(5)]
				f.Create(other)
				f.Append(other, drawnBytes(r, 40))
				if r.Intn(2) == 0 {
					f.Remove(other)
				}
				if r.Intn(3) == 0 {
					f.Fuse(r.Intn(4))
				}
			}
			f.Crash(drawnFates(r))
			holdFile(t, f, 3, want)
		}
	}
}

// TestFirstPart is P5.3: of what was only appended to since it was safe there is the safe part, and a first part of the rest, but for its last 16 bytes.
func TestFirstPart(t *testing.T) {
	r := rand.New(rand.NewSource(8))
	for range 3000 {
		f := New()
		safe, all := string(drawnBytes(r, 40)), ""
		run(t, f, create(3, api.OK), put(3, safe, api.OK), sync(3, api.OK))
		all = safe
		for range r.Intn(5) {
			more := string(drawnBytes(r, 40))
			run(t, f, put(3, more, api.OK))
			all += more
		}
		f.Crash(drawnFates(r))
		b, e := f.Read(3)
		if e != api.OK || len(b) < len(safe) || len(b) > len(all) {
			t.Fatalf("%q %v left of %q, %q of it safe", b, e, all, safe)
		}
		whole := max(len(safe), len(b)-16)
		if string(b[:whole]) != all[:whole] {
			t.Fatalf("%q left of %q, %q of it safe", b, all, safe)
		}
	}
}
