package seglog

import (
	"bytes"
	"fmt"
	"math/rand"
	"slices"
	"testing"

	"merkhet/api"
	"merkhet/simfs"
)

// This file is of P8.2 and P8.3: what is there behind crashes.

// told is what a log's calls have answered since it was opened, and so what a crash may leave of it.
type told struct {
	keep  int
	all   [][]byte // the batches whose Append answered OK, and that weren't expired
	safe  int      // how many of them were there when a Flush, or an Append that sealed, answered OK
	maybe []byte   // the batch whose Append fell
	gone  bool     // whether an Expire fell
}

// add appends a batch, and tells whether the log goes on.
func (x *told) add(l *Log, body []byte) api.Errno {
	e := l.Append(body)
	switch e {
	case api.OK:
		x.all = append(x.all, body)
		if len(x.all)%x.keep == 0 {
			x.safe = len(x.all)
		}
	case api.ErrDown:
		x.maybe = body
	}
	return e
}

func (x *told) flush(l *Log) api.Errno {
	e := l.Flush()
	if e == api.OK {
		x.safe = len(x.all)
	}
	return e
}

func (x *told) expire(l *Log) api.Errno {
	e := l.Expire()
	switch e {
	case api.OK:
		x.all, x.safe = x.all[x.keep:], x.safe-x.keep
	case api.ErrDown:
		x.gone = true
	}
	return e
}

// may tells whether a crash may leave these batches.
func (x *told) may(got [][]byte) bool {
	all := slices.Clone(x.all)
	if x.maybe != nil {
		all = append(all, x.maybe)
	}
	if isBetween(got, all, x.safe) {
		return true
	}
	return x.gone && isBetween(got, all[x.keep:], x.safe-x.keep)
}

// isBetween tells whether some batches are first ones of others, and at least so many.
func isBetween(got, all [][]byte, least int) bool {
	return least <= len(got) && len(got) <= len(all) && slices.EqualFunc(got, all[:len(got)], bytes.Equal)
}

// holdAgain tells where a log that is opened again, on what it was opened on, isn't the same, or where that takes an act.
func holdAgain(t *testing.T, what string, f *simfs.FS, l *Log) {
	t.Helper()
	g := fused(f.Copy(), 0)
	as := g.Copy()
	m, e := Open(g, l.keep, l.room)
	if e != api.OK {
		t.Fatalf("%s, opened again: error %d", what, e)
	}
	holdLog(t, what+", opened again", m, l.Bodies(), l.Segs())
	if !sameFS(g, as) || !sameNext(l, m) {
		t.Errorf("%s, opened again: there are acts, or it would go on otherwise", what)
	}
}

// sameNext tells whether two logs that have the same batches would go on likewise.
func sameNext(l, m *Log) bool {
	a, aNew := l.goesTo()
	b, bNew := m.goesTo()
	return a.number == b.number && aNew == bNew && l.isFull() == m.isFull()
}

// play does calls by their letters up to the first at which the file system falls: a is for Append, f for Flush, e for Expire.
func play(t *testing.T, l *Log, x *told, calls string) (fell bool) {
	t.Helper()
	for i, c := range calls {
		e := api.OK
		switch c {
		case 'a':
			e = x.add(l, batchOf(i, 1))
		case 'f':
			e = x.flush(l)
		case 'e':
			e = x.expire(l)
		}
		if e == api.ErrDown {
			return true
		}
		if e != api.OK {
			t.Fatalf("call %d of %s: error %d", i, calls, e)
		}
	}
	return false
}

// fates are, for so many unsafe numbers, those that keep each of them or don't, with as many bytes as are asked for.
func fates(count, size int, garble []byte) [][]api.Fate {
	var l [][]api.Fate
	for keeps := range 1 << count {
		var one []api.Fate
		for i := range count {
			one = append(one, api.Fate{Keep: keeps>>i&1 == 1, Bytes: size, Garble: garble})
		}
		l = append(l, one)
	}
	return l
}

// holdCrash tells where a crash leaves what it may not.
func holdCrash(t *testing.T, f *simfs.FS, x *told, l []api.Fate, room int) *simfs.FS {
	t.Helper()
	g := f.Copy()
	g.Crash(l)
	h := g.Copy()
	m, e := Open(g, x.keep, room)
	if e != api.OK {
		t.Fatalf("behind a crash of %v: error %d", l, e)
	}
	if got := m.Bodies(); !x.may(got) {
		t.Fatalf("behind a crash of %v: %d bodies, of %d and %d safe ones, or others", l, len(got), len(x.all), x.safe)
	}
	holdAgain(t, "behind a crash", g, m)
	return h
}

// TestKept crashes at each act of some calls, with each number of bytes left.
func TestKept(t *testing.T) {
	lefts := map[int]bool{}
	for _, calls := range []string{"aaafaaeaaefaa", "afafaaaeafae"} {
		for fuse, fell := 0, true; fell; fuse++ {
			f := simfs.New()
			x := &told{keep: 2}
			l := opened(t, f, 2, 3)
			f.Fuse(fuse)
			fell = play(t, l, x, calls)
			for size := range 2*87 + headSize + 2 {
				for _, garble := range [][]byte{nil, {0x80}, []byte("0123456789abcdef")} {
					for _, fate := range fates(len(f.Unsafe()), size, garble) {
						g := holdCrash(t, f, x, fate, 3)
						lefts[len(g.List())] = true
					}
				}
			}
		}
	}
	if len(lefts) < 4 {
		t.Errorf("only %d numbers of files were left: this holds too little", len(lefts))
	}
}

// TestKeptBehindFallsOfOpen lets the file system fall at the acts of Open, too.
func TestKeptBehindFallsOfOpen(t *testing.T) {
	fallen := 0
	for fuse, fell := 0, true; fell; fuse++ {
		f := simfs.New()
		x := &told{keep: 2}
		l := opened(t, f, 2, 3)
		f.Fuse(fuse)
		fell = play(t, l, x, "aaafaaeaa")
		for size := 0; size < 2*87+headSize+2; size += 3 {
			for _, fate := range fates(len(f.Unsafe()), size, []byte{1}) {
				g := holdCrash(t, f, x, fate, 3)
				for acts := range 2 {
					h := fused(g.Copy(), acts)
					if _, e := Open(h, 2, 3); e == api.OK {
						continue
					}
					fallen++
					for _, again := range fates(len(h.Unsafe()), size, []byte{1}) {
						holdCrash(t, h, x, again, 3)
					}
				}
			}
		}
	}
	if fallen < 100 {
		t.Errorf("Open fell %d times: this holds too little", fallen)
	}
}

// drawnFates are fates for so many unsafe numbers, or for fewer or more.
func drawnFates(r *rand.Rand, count int) []api.Fate {
	var l []api.Fate
	for range count + r.Intn(3) - 1 {
		garble := make([]byte, r.Intn(20))
		r.Read(garble)
		l = append(l, api.Fate{Keep: r.Intn(2) == 0, Bytes: r.Intn(600) - 20, Garble: garble})
	}
	return l
}

// drawnCall is one call of a log: what is refused stays without anything done.
func drawnCall(t *testing.T, r *rand.Rand, l *Log, x *told, number int) api.Errno {
	t.Helper()
	switch r.Intn(8) {
	case 0:
		return x.flush(l)
	case 1:
		want := api.OK
		if len(x.all) < x.keep {
			want = api.ErrNone
		}
		e := x.expire(l)
		if e != want && e != api.ErrDown {
			t.Fatalf("expire: error %d, want %d", e, want)
		}
		return e
	case 2:
		holdError(t, "no batch", l.Append([]byte("SPAN")), api.ErrArg)
		return api.OK
	}
	return x.add(l, batchOf(number, 1+r.Intn(3)))
}

// drawnLife is a log's life on one file system, from crash to crash.
func drawnLife(t *testing.T, r *rand.Rand, met map[string]int) {
	t.Helper()
	keep, room := 1+r.Intn(4), 1+r.Intn(4)
	f := simfs.New()
	x := &told{keep: keep}
	for round := range 12 {
		f.Fuse(r.Intn(4) - 1)
		l, e := Open(f, keep, room)
		if e == api.ErrDown {
			met["open fell"]++
			f.Crash(drawnFates(r, len(f.Unsafe())))
			f.Fuse(-1)
			l, e = Open(f, keep, room)
		}
		if e != api.OK {
			t.Fatalf("open: error %d", e)
		}
		got := l.Bodies()
		if !x.may(got) {
			t.Fatalf("%d bodies, of %d and %d safe ones, or others", len(got), len(x.all), x.safe)
		}
		if len(got) > x.safe && len(got) < len(x.all) {
			met["some of the later ones"]++
		}
		holdAgain(t, "drawn", f, l)
		x = &told{keep: keep, all: got, safe: len(got)}
		f.Fuse(r.Intn(30))
		for i := 0; i < 40 && e != api.ErrDown; i++ {
			e = drawnCall(t, r, l, x, 1000*round+i)
			met[fmt.Sprint("error ", e)]++
			if e != api.ErrDown {
				holdLog(t, "drawn", l, x.all, l.Segs())
			}
		}
		f.Crash(drawnFates(r, len(f.Unsafe())))
	}
}

func TestKeptDrawn(t *testing.T) {
	r := rand.New(rand.NewSource(8))
	met := map[string]int{}
	for range 150 {
		drawnLife(t, r, met)
	}
	for _, what := range []string{"open fell", "some of the later ones", "error 0", "error 5", "error 6", "error 7"} {
		if met[what] < 20 {
			t.Errorf("%s: met %d times: this holds too little", what, met[what])
		}
	}
}
