package parent

import (
	"math"
	"math/rand"
	"slices"
	"testing"

	"merkhet/api"
)

// below is a span that has an ID and a parent, and nothing else.
func below(id, parent uint64) api.Span { return api.Span{ID: id, Parent: parent} }

// holdOf tells where the parents of spans aren't those that are wanted. It holds P10.2 of them, too.
func holdOf(t *testing.T, what string, l []api.Span, want ...int) {
	t.Helper()
	got := Of(l)
	if !slices.Equal(got, want) {
		t.Errorf("%s: %v, want %v", what, got, want)
	}
	if !Right(got) {
		t.Errorf("%s: %v isn't right", what, got)
	}
}

func TestOfExample(t *testing.T) {
	holdOf(t, "1 below 2, 2 below 1", []api.Span{below(1, 2), below(2, 1)}, -1, 0)
}

func TestOfNone(t *testing.T) {
	holdOf(t, "nil", nil)
	holdOf(t, "empty", []api.Span{})
}

func TestOfOrdinary(t *testing.T) {
	for _, c := range []struct {
		what string
		l    []api.Span
		want []int
	}{
		{"a root alone", []api.Span{below(7, 0)}, []int{-1}},
		{"a kid behind", []api.Span{below(7, 0), below(8, 7)}, []int{-1, 0}},
		{"a kid ahead", []api.Span{below(8, 7), below(7, 0)}, []int{1, -1}},
		{"several kids, and theirs", []api.Span{below(1, 0), below(2, 1), below(3, 1), below(4, 3), below(5, 3)}, []int{-1, 0, 0, 2, 2}},
		{"several roots", []api.Span{below(1, 0), below(2, 0), below(3, 2), below(4, 1)}, []int{-1, -1, 1, 0}},
		{"IDs that aren't in order", []api.Span{below(30, 20), below(10, 0), below(20, 10)}, []int{2, -1, 1}},
		{"no such span", []api.Span{below(1, 9), below(2, 1)}, []int{-1, 0}},
		{"no such span, for all", []api.Span{below(1, 9), below(2, 8), below(3, 7)}, []int{-1, -1, -1}},
	} {
		holdOf(t, c.what, c.l, c.want...)
	}
}

func TestOfTheFirstOfAnID(t *testing.T) {
	holdOf(t, "twice ahead", []api.Span{below(1, 0), below(1, 0), below(2, 1)}, -1, -1, 0)
	holdOf(t, "twice behind", []api.Span{below(2, 1), below(1, 0), below(1, 0)}, 1, -1, -1)
	holdOf(t, "ahead and behind", []api.Span{below(1, 0), below(2, 1), below(1, 0)}, -1, 0, -1)
	holdOf(t, "three times", []api.Span{below(9, 0), below(1, 9), below(1, 0), below(2, 1), below(1, 2)}, -1, 0, -1, 1, 3)
	holdOf(t, "the first alone is of a cycle", []api.Span{below(1, 2), below(1, 2), below(2, 1)}, -1, 2, 0)
	holdOf(t, "the later one is of none", []api.Span{below(1, 0), below(2, 1), below(1, 2)}, -1, 0, 1)
}

func TestOfParent0(t *testing.T) {
	// A Parent of 0 is none, even where a span with the ID 0 is there.
	holdOf(t, "ID 0", []api.Span{below(0, 0)}, -1)
	holdOf(t, "ID 0 ahead", []api.Span{below(0, 0), below(2, 0)}, -1, -1)
	holdOf(t, "ID 0 behind", []api.Span{below(2, 0), below(0, 0)}, -1, -1)
	holdOf(t, "ID 0 below another one", []api.Span{below(0, 2), below(2, 0)}, 1, -1)
	holdOf(t, "ID 0 twice", []api.Span{below(0, 0), below(0, 0)}, -1, -1)
}

func TestOfEachBitOfIDs(t *testing.T) {
	// Numbers of which one half, one bit or the sign alone is unlike.
	ids := []uint64{1, 2, 1 << 31, 1 << 32, 1<<32 + 1, 1<<32 + 2, 1 << 53, 1<<53 + 1, 1 << 63, 1<<63 + 1, math.MaxUint64 - 1, math.MaxUint64}
	var roots, chain []api.Span
	var noParents, oneAhead []int
	for i, id := range ids {
		roots = append(roots, below(id, id^1<<40))
		noParents = append(noParents, -1)
		chain = append(chain, below(id, 0))
		oneAhead = append(oneAhead, i-1)
		if i > 0 {
			chain[i].Parent = ids[i-1]
		}
	}
	holdOf(t, "no such numbers", roots, noParents...)
	holdOf(t, "each below the one ahead", chain, oneAhead...)
}

func TestOfOwnParent(t *testing.T) {
	holdOf(t, "alone", []api.Span{below(5, 5)}, -1)
	holdOf(t, "with a kid", []api.Span{below(5, 5), below(6, 5)}, -1, 0)
	holdOf(t, "with a kid ahead", []api.Span{below(6, 5), below(5, 5)}, 1, -1)
	holdOf(t, "several", []api.Span{below(5, 5), below(6, 6), below(7, 7)}, -1, -1, -1)
	holdOf(t, "of the greatest number", []api.Span{below(math.MaxUint64, math.MaxUint64)}, -1)
	// The later one asks for the first of its ID, which isn't itself.
	holdOf(t, "not the first of its ID", []api.Span{below(5, 0), below(5, 5)}, -1, 0)
	holdOf(t, "twice", []api.Span{below(5, 5), below(5, 5)}, -1, 0)
}

func TestOfCycles(t *testing.T) {
	for _, c := range []struct {
		what string
		l    []api.Span
		want []int
	}{
		{"two, the other way round", []api.Span{below(2, 1), below(1, 2)}, []int{-1, 0}},
		{"three, up", []api.Span{below(1, 2), below(2, 3), below(3, 1)}, []int{-1, 2, 0}},
		{"three, down", []api.Span{below(1, 3), below(2, 1), below(3, 2)}, []int{-1, 0, 1}},
		{"four, crossed", []api.Span{below(1, 3), below(2, 4), below(3, 2), below(4, 1)}, []int{-1, 3, 1, 0}},
		{"not from the first place on", []api.Span{below(1, 0), below(2, 3), below(3, 2)}, []int{-1, -1, 1}},
		{"the least ID isn't at the least place", []api.Span{below(9, 1), below(1, 9)}, []int{-1, 0}},
		{"two cycles", []api.Span{below(1, 3), below(2, 1), below(3, 2), below(7, 8), below(8, 7)}, []int{-1, 0, 1, -1, 3}},
		{"two cycles that are mixed", []api.Span{below(1, 3), below(2, 4), below(3, 1), below(4, 2)}, []int{-1, -1, 0, 1}},
		{"all kinds", []api.Span{below(1, 1), below(2, 3), below(3, 2), below(4, 0), below(5, 99), below(6, 4)}, []int{-1, -1, 1, -1, -1, 3}},
	} {
		holdOf(t, c.what, c.l, c.want...)
	}
}

func TestOfBelowCycles(t *testing.T) {
	// What is below a cycle isn't of it, and keeps its parent, though its place may be less.
	holdOf(t, "one ahead", []api.Span{below(1, 2), below(2, 3), below(3, 2), below(4, 3)}, 1, -1, 1, 2)
	holdOf(t, "come to at the place that isn't the least", []api.Span{below(1, 3), below(2, 3), below(3, 2)}, 2, -1, 1)
	holdOf(t, "come to at the last place", []api.Span{below(1, 5), below(2, 1), below(3, 4), below(4, 5), below(5, 3)}, 4, 0, -1, 4, 2)
	holdOf(t, "a row of them", []api.Span{below(1, 2), below(2, 3), below(3, 4), below(4, 5), below(5, 4)}, 1, 2, 3, -1, 3)
	holdOf(t, "behind it", []api.Span{below(1, 2), below(2, 1), below(3, 1), below(4, 2), below(5, 4)}, -1, 0, 0, 1, 3)
	holdOf(t, "below both of two", []api.Span{below(1, 3), below(2, 5), below(3, 4), below(4, 3), below(5, 6), below(6, 5)}, 2, 4, -1, 2, -1, 4)
}

func TestOfNumbersAlone(t *testing.T) {
	// Spans of unlike traces, and those that may not be, are spans, too: nothing but ID and Parent tells.
	l := []api.Span{
		{Trace: 1, ID: 1, Parent: 3, Kind: api.Client, Host: "a", Name: "n", Start: 9, Dur: 1},
		{Trace: 2, ID: 2, Parent: 1, Kind: 255, Host: "", Name: "N", Start: -1, Dur: math.MinInt64},
		{Trace: 0, ID: 3, Parent: 2, Kind: 3, Host: "\xff", Name: "", Start: math.MaxInt64, Dur: -1},
		{Trace: 9, ID: 4, Parent: 4, Start: math.MinInt64},
		{Trace: math.MaxUint64, ID: 1, Start: 1},
		{ID: 5, Parent: 1},
	}
	holdOf(t, "any spans", l, -1, 0, 1, -1, -1, 0)
}

// toldAsked is what a span asks for, told plainly.
func toldAsked(l []api.Span, s api.Span) int {
	if s.Parent == 0 {
		return -1
	}
	return slices.IndexFunc(l, func(o api.Span) bool { return o.ID == s.Parent })
}

// toldLoses tells whether a place is the least of a cycle: whether going up comes back to it, and not by a lesser one.
func toldLoses(l []api.Span, place int) bool {
	at := place
	for range l {
		at = toldAsked(l, l[at])
		if at < place {
			return false
		}
		if at == place {
			return true
		}
	}
	return false
}

// told is what Of has to answer, told plainly.
func told(l []api.Span) []int {
	var out []int
	for place, s := range l {
		up := toldAsked(l, s)
		if toldLoses(l, place) {
			up = -1
		}
		out = append(out, up)
	}
	return out
}

// TestOfAllShort holds each list of up to four spans, with IDs from 0 on and parents from 0 on, two of which are no ID.
func TestOfAllShort(t *testing.T) {
	for size := range 5 {
		each(size, size*(size+2), func(picks []int) {
			l := make([]api.Span, size)
			for i, p := range picks {
				l[i] = below(uint64(p%size), uint64(p/size))
			}
			holdAsTold(t, l)
		})
	}
}

// TestOfAllChoices holds each choice of parents for up to six spans of unlike IDs.
func TestOfAllChoices(t *testing.T) {
	for size := range 7 {
		each(size, size+1, func(picks []int) {
			l := make([]api.Span, size)
			for i, p := range picks {
				l[i] = below(uint64(size-i), uint64(p))
			}
			holdAsTold(t, l)
		})
	}
}

func holdAsTold(t *testing.T, l []api.Span) {
	t.Helper()
	got, want := Of(l), told(l)
	if !slices.Equal(got, want) || !Right(got) {
		t.Fatalf("%v: %v, want %v, right: %v", l, got, want, Right(got))
	}
}

// each hands on each row of so many numbers from 0 to ahead of most.
func each(size, most int, hold func(picks []int)) {
	picks := make([]int, size)
	for {
		hold(picks)
		at := 0
		for at < size && picks[at] == most-1 {
			picks[at] = 0
			at++
		}
		if at == size {
			return
		}
		picks[at]++
	}
}

func TestOfDrawn(t *testing.T) {
	r := rand.New(rand.NewSource(10))
	lost := map[int]int{}
	for range 4000 {
		l := make([]api.Span, r.Intn(40))
		for i := range l {
			l[i] = below(uint64(r.Intn(len(l)+2)), uint64(r.Intn(len(l)+2)))
		}
		holdAsTold(t, l)
		count := 0
		for place := range l {
			if toldLoses(l, place) {
				count++
			}
		}
		lost[count]++
	}
	for count := range 4 {
		if lost[count] == 0 {
			t.Errorf("none of the lists drawn had %d cycles", count)
		}
	}
}

// long is one long row of spans, each below the one behind it, and the last one below that at an ID; its parents as they ought to be.
func long(size int, last uint64) ([]api.Span, []int) {
	l, want := make([]api.Span, size), make([]int, size)
	for i := range l {
		l[i], want[i] = below(uint64(i)+1, uint64(i)+2), i+1
	}
	l[size-1].Parent, want[size-1] = last, int(last)-1
	return l, want
}

func TestOfLong(t *testing.T) {
	const size = 200000
	for _, last := range []uint64{0, 1, size / 2, size} {
		l, want := long(size, last)
		if last > 0 {
			if Right(want) {
				t.Errorf("last below %d: a cycle is right", last)
			}
			want[last-1] = -1
		}
		got := Of(l)
		if !slices.Equal(got, want) {
			t.Errorf("last below %d: not as it ought to be", last)
		}
		if !Right(got) {
			t.Errorf("last below %d: not right", last)
		}
	}
}

func TestOfLeavesItsArgument(t *testing.T) {
	l := []api.Span{below(1, 2), below(2, 1), below(3, 3), below(4, 1), below(4, 0)}
	kept, want := slices.Clone(l), []int{-1, 0, -1, 0}
	out := Of(l[:4])
	if !slices.Equal(l, kept) {
		t.Error("the list that was handed in has changed")
	}
	clear(l)
	if !slices.Equal(out, want) {
		t.Error("writing into what was handed in changes the answer")
	}
	clear(out)
	if again := Of(kept[:4]); !slices.Equal(again, want) {
		t.Error("writing into the answer changes the next one")
	}
}

func TestRight(t *testing.T) {
	for _, c := range []struct {
		parents []int
		want    bool
	}{
		{nil, true},
		{[]int{}, true},
		{[]int{-1}, true},
		{[]int{-1, -1, -1}, true},
		{[]int{-1, 0}, true},
		{[]int{1, -1}, true},
		{[]int{-1, 0, 1}, true},
		{[]int{1, 2, -1}, true},
		{[]int{2, -1, 1}, true},
		{[]int{-1, 0, 0, 0}, true},
		{[]int{3, 3, 3, -1}, true},
		{[]int{-1, 0, -1, 2, 3, 2}, true},
		// Cycles: alone, behind a root, and with places below them.
		{[]int{0}, false},
		{[]int{-1, 1}, false},
		{[]int{1, 1}, false},
		{[]int{0, 0}, false},
		{[]int{1, 0}, false},
		{[]int{-1, 2, 1}, false},
		{[]int{2, 1, -1}, false},
		{[]int{1, 2, 0}, false},
		{[]int{2, 0, 1}, false},
		{[]int{1, 2, 3, 2}, false},
		{[]int{1, 0, 3, 2}, false},
		{[]int{-1, 0, 1, 4, 3}, false},
		// Out of range, at either end, in each place.
		{[]int{-2}, false},
		{[]int{1}, false},
		{[]int{2}, false},
		{[]int{-2, 0}, false},
		{[]int{-1, -2}, false},
		{[]int{2, -1}, false},
		{[]int{-1, 2}, false},
		{[]int{-1, 0, 3}, false},
		{[]int{1, 2, 3}, false},
		// Both at once.
		{[]int{0, 2}, false},
		{[]int{1, 0, -2}, false},
		{[]int{3, 1, 1}, false},
	} {
		if got := Right(c.parents); got != c.want {
			t.Errorf("%v: %v, want %v", c.parents, got, c.want)
		}
	}
}

func TestRightHugeNumbers(t *testing.T) {
	// Also those of which the lower half alone would do.
	for _, p := range []int{math.MinInt, math.MinInt + 1, math.MinInt32, -1 << 32, -3, 3, math.MaxInt32, math.MaxUint32, 1 << 32, 1<<32 + 1, 1 << 62, math.MaxInt - 1, math.MaxInt} {
		for place := range 3 {
			parents := []int{-1, -1, -1}
			parents[place] = p
			if Right(parents) {
				t.Errorf("%v is right", parents)
			}
		}
	}
}

// toldRight is what Right has to answer, told plainly: from each place so many steps up come to none.
func toldRight(parents []int) bool {
	for place := range parents {
		at := place
		for range parents {
			if at == -1 {
				break
			}
			at = parents[at]
			if at < -1 || at >= len(parents) {
				return false
			}
		}
		if at != -1 {
			return false
		}
	}
	return true
}

// TestRightAllShort holds each row of up to five numbers, from -2 to as many as there are.
func TestRightAllShort(t *testing.T) {
	for size := range 6 {
		right := 0
		each(size, size+3, func(picks []int) {
			parents := make([]int, size)
			for i, p := range picks {
				parents[i] = p - 2
			}
			got := Right(parents)
			if want := toldRight(parents); got != want {
				t.Fatalf("%v: %v, want %v", parents, got, want)
			}
			if got {
				right++
			}
		})
		// So many forests there are of so many places, by Cayley's rule.
		if want := []int{1, 1, 3, 16, 125, 1296}[size]; right != want {
			t.Errorf("of %d places %d are right, want %d", size, right, want)
		}
	}
}

func TestRightLeavesItsArgument(t *testing.T) {
	for _, parents := range [][]int{{-1, 0, 0, 2}, {1, 2, 0}, {-1, 9}} {
		kept := slices.Clone(parents)
		first := Right(parents)
		if !slices.Equal(parents, kept) {
			t.Errorf("%v was handed in, and is %v", kept, parents)
		}
		if Right(parents) != first {
			t.Errorf("%v: another answer at the second time", kept)
		}
	}
}
