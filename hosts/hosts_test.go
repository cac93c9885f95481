package hosts

import (
	"math"
	"math/rand"
	"slices"
	"strconv"
	"strings"
	"testing"

	"merkhet/api"
	"merkhet/dedupe"
)

// on are spans that may be, on hosts.
func on(hosts ...string) []api.Span {
	var l []api.Span
	for i, h := range hosts {
		l = append(l, api.Span{Trace: 1, ID: uint64(i) + 1, Host: h, Name: "n", Start: int64(i)})
	}
	return l
}

// spread are so many spans, on so many hosts in turn.
func spread(spans, hosts int) []api.Span {
	var names []string
	for i := range spans {
		names = append(names, "h"+strconv.Itoa(1000+i%hosts))
	}
	return on(names...)
}

// holdOf tells where the numbers of spans' hosts aren't those that are wanted.
func holdOf(t *testing.T, what string, l []api.Span, want ...int) {
	t.Helper()
	if got := Of(l); !slices.Equal(got, want) {
		t.Errorf("%s: numbers %v, want %v", what, got, want)
	}
}

// sameGroups tells whether groups are the same.
func sameGroups(a, b [][]int) bool { return slices.EqualFunc(a, b, slices.Equal[[]int]) }

// holdGroups tells where the places of each host's spans aren't those that are wanted.
func holdGroups(t *testing.T, what string, l []api.Span, want ...[]int) {
	t.Helper()
	if got := Groups(l); !sameGroups(got, want) {
		t.Errorf("%s: groups %v, want %v", what, got, want)
	}
}

// holdGreat tells where spans are too many, or not, other than it is wanted.
func holdGreat(t *testing.T, what string, l []api.Span, want bool) {
	t.Helper()
	if got := Great(l); got != want {
		t.Errorf("%s: great %v, want %v", what, got, want)
	}
}

func TestExample(t *testing.T) {
	l := on("b", "a", "b")
	holdOf(t, "b, a, b", l, 1, 0, 1)
	holdGroups(t, "b, a, b", l, []int{1}, []int{0, 2})
	holdGreat(t, "b, a, b", l, false)
}

func TestNone(t *testing.T) {
	for _, l := range [][]api.Span{nil, {}} {
		holdOf(t, "none", l)
		holdGroups(t, "none", l)
		holdGreat(t, "none", l, false)
	}
}

func TestOrdinary(t *testing.T) {
	long := strings.Repeat("a", api.MaxName)
	for _, c := range []struct {
		hosts  []string
		of     []int
		groups [][]int
	}{
		{[]string{"a"}, []int{0}, [][]int{{0}}},
		{[]string{"z"}, []int{0}, [][]int{{0}}},
		{[]string{"a", "a", "a"}, []int{0, 0, 0}, [][]int{{0, 1, 2}}},
		{[]string{"a", "b"}, []int{0, 1}, [][]int{{0}, {1}}},
		{[]string{"b", "a"}, []int{1, 0}, [][]int{{1}, {0}}},
		{[]string{"a", "b", "a"}, []int{0, 1, 0}, [][]int{{0, 2}, {1}}},
		{[]string{"c", "b", "a"}, []int{2, 1, 0}, [][]int{{2}, {1}, {0}}},
		{[]string{"c", "a", "b", "a", "c", "c"}, []int{2, 0, 1, 0, 2, 2}, [][]int{{1, 3}, {2}, {0, 4, 5}}},
		// Byte by byte, a text that another one begins with ahead of that.
		{[]string{"ab", "a", "b", "aa", "abc"}, []int{2, 0, 4, 1, 3}, [][]int{{1}, {3}, {0}, {4}, {2}}},
		{[]string{"_", "a", "9", "-", "0", ".", "z"}, []int{4, 5, 3, 0, 2, 1, 6}, [][]int{{3}, {5}, {4}, {2}, {0}, {1}, {6}}},
		{[]string{"host10", "host9", "host1"}, []int{1, 2, 0}, [][]int{{2}, {0}, {1}}},
		{[]string{long + "a", long, long[1:], long}, []int{2, 1, 0, 1}, [][]int{{2}, {1, 3}, {0}}},
		// Hosts that are no names are hosts, too.
		{[]string{""}, []int{0}, [][]int{{0}}},
		{[]string{"a", "", "a", ""}, []int{1, 0, 1, 0}, [][]int{{1, 3}, {0, 2}}},
		{[]string{"a", "A", " ", "Z"}, []int{3, 1, 0, 2}, [][]int{{2}, {1}, {3}, {0}}},
		{[]string{"\xff", "\xfe", "\ufffd", "\xff"}, []int{2, 1, 0, 2}, [][]int{{2}, {1}, {0, 3}}},
		{[]string{"é", "e", "f", "e\u0301"}, []int{3, 0, 2, 1}, [][]int{{1}, {3}, {2}, {0}}},
		{[]string{"a\x00", "a", "\x00"}, []int{2, 1, 0}, [][]int{{2}, {1}, {0}}},
	} {
		l, what := on(c.hosts...), strings.Join(c.hosts, ", ")
		holdOf(t, what, l, c.of...)
		holdGroups(t, what, l, c.groups...)
		holdGreat(t, what, l, false)
	}
}

// TestHostAloneTells holds that nothing else of a span counts, so that those that may not be, and those of other traces, are numbered, too.
func TestHostAloneTells(t *testing.T) {
	l := []api.Span{
		{Host: "b"},
		{Trace: 1, ID: 1, Host: "a", Name: "n"},
		{Trace: 2, ID: 1, Host: "b", Name: "n"},
		{Trace: math.MaxUint64, ID: math.MaxUint64, Parent: math.MaxUint64, Kind: 255, Host: "a", Name: "\xff", Start: math.MinInt64, Dur: math.MaxInt64},
		{Trace: 1, ID: 1, Kind: api.Client, Host: "c", Name: "a", Start: -1, Dur: -1},
		{Trace: 1, ID: 1, Kind: api.Server, Host: "a", Name: "c", Start: api.MaxTime, Dur: math.MinInt64},
	}
	holdOf(t, "any spans", l, 1, 0, 1, 0, 2, 0)
	holdGroups(t, "any spans", l, []int{1, 3, 5}, []int{0, 2}, []int{4})
	holdGreat(t, "any spans", l, false)

	// The same record several times is as many spans of its host.
	same := slices.Repeat([]api.Span{{Trace: 1, ID: 1, Host: "b", Name: "n"}}, 3)
	holdOf(t, "one record", same, 0, 0, 0)
	holdGroups(t, "one record", same, []int{0, 1, 2})
}

func TestGreatEdges(t *testing.T) {
	for _, c := range []struct {
		spans, hosts int
		want         bool
	}{
		{1, 1, false},
		{511, 1, false}, {512, 1, false}, {513, 1, true}, {514, 1, true}, {5000, 1, true},
		{511, 32, false}, {512, 32, false}, {513, 32, true},
		{512, 31, false}, {512, 33, true}, {512, 512, true},
		{31, 31, false}, {32, 32, false}, {33, 33, true}, {34, 34, true},
		{33, 32, false}, {34, 33, true}, {64, 32, false},
		{513, 33, true}, {5000, 5000, true},
	} {
		l, what := spread(c.spans, c.hosts), strconv.Itoa(c.spans)+" spans, "+strconv.Itoa(c.hosts)+" hosts"
		holdGreat(t, what, l, c.want)
		slices.Reverse(l)
		holdGreat(t, what+", reversed", l, c.want)
		// What may not be counts as what may be.
		for i := range l {
			l[i] = api.Span{Host: l[i].Host}
		}
		holdGreat(t, what+", bare", l, c.want)
	}
}

func TestGreatByTheLastSpan(t *testing.T) {
	l := spread(32, 32)
	for _, s := range l {
		holdGreat(t, "one more, on a host that was met", append(slices.Clone(l), s), false)
	}
	for _, host := range []string{"", "a", "h1032", "h100", "H1000", "z", "\xff"} {
		holdGreat(t, "one more, on "+strconv.Quote(host), append(slices.Clone(l), on(host)...), true)
		holdGreat(t, "one more at first, on "+strconv.Quote(host), append(on(host), l...), true)
	}
	// What lies behind the list in its memory isn't of it.
	holdGreat(t, "hosts behind", spread(33, 33)[:32], false)
	holdGreat(t, "spans behind", spread(513, 1)[:512], false)
	holdOf(t, "behind", on("b", "a")[:1], 0)
	holdGroups(t, "behind", on("b", "a")[:1], []int{0})
}

// TestMoreThanAnyLimit holds that what is too many is numbered and grouped all the same.
func TestMoreThanAnyLimit(t *testing.T) {
	const most = 3000
	l := spread(2*most, most)
	slices.Reverse(l)
	of, groups := Of(l), Groups(l)
	if len(of) != 2*most || len(groups) != most {
		t.Fatalf("%d numbers, %d groups", len(of), len(groups))
	}
	for place, number := range of {
		if want := most - 1 - place%most; number != want {
			t.Fatalf("the host at %d is %d, want %d", place, number, want)
		}
	}
	for number, places := range groups {
		if want := []int{most - 1 - number, 2*most - 1 - number}; !slices.Equal(places, want) {
			t.Fatalf("the spans of the host %d are at %v, want %v", number, places, want)
		}
	}
}

// holdPlain holds all calls against what they have to answer, told plainly by layer 9.
func holdPlain(t *testing.T, l []api.Span) {
	t.Helper()
	hosts := dedupe.Hosts(l)
	var of []int
	groups := make([][]int, len(hosts))
	for place, s := range l {
		number := dedupe.Place(hosts, s.Host)
		of = append(of, number)
		groups[number] = append(groups[number], place)
	}
	holdOf(t, "plain", l, of...)
	holdGroups(t, "plain", l, groups...)
	holdGreat(t, "plain", l, len(l) > 512 || len(hosts) > 32)
}

// TestAllShort holds each row of up to five spans on four hosts.
func TestAllShort(t *testing.T) {
	hosts := []string{"b", "a", "ab", ""}
	rows := 1
	for size := range 6 {
		for row := range rows {
			var names []string
			for range size {
				names = append(names, hosts[row%4])
				row /= 4
			}
			holdPlain(t, on(names...))
		}
		rows *= 4
	}
}

func TestDrawn(t *testing.T) {
	r := rand.New(rand.NewSource(13))
	great, few := 0, 0
	for range 600 {
		most := 1 + r.Intn(60)
		var names []string
		for range r.Intn(560) {
			names = append(names, strconv.Itoa(r.Intn(most)))
		}
		l := on(names...)
		holdPlain(t, l)
		if Great(l) {
			great++
		} else {
			few++
		}
	}
	if great == 0 || few == 0 {
		t.Errorf("%d of the lists drawn are great, %d aren't", great, few)
	}
}

// TestTheSameEachTime is of R5: the order in which a map is gone through isn't to be told.
func TestTheSameEachTime(t *testing.T) {
	l := spread(100, 33)
	slices.Reverse(l)
	of, groups := Of(l), Groups(l)
	for range 200 {
		holdOf(t, "again", l, of...)
		holdGroups(t, "again", l, groups...)
	}
}

func TestArgumentsStayAsTheyAre(t *testing.T) {
	l := on("b", "a", "b", "c", "a", "d")
	kept := slices.Clone(l)
	of, groups, great := Of(l[:5]), Groups(l[:5]), Great(l[:5])
	if !slices.Equal(l, kept) || great {
		t.Error("what was handed in has changed")
	}
	clear(l)
	if !slices.Equal(of, []int{1, 0, 1, 2, 0}) || !sameGroups(groups, [][]int{{1, 4}, {0, 2}, {3}}) {
		t.Error("writing into what was handed in changes the answer")
	}
	clear(of)
	clear(groups[0])
	clear(groups)
	holdOf(t, "written into", kept, 1, 0, 1, 2, 0, 3)
	holdGroups(t, "written into", kept, []int{1, 4}, []int{0, 2}, []int{3}, []int{5})
}

// TestGroupsShareNothing writes into each group, and behind its end, and looks whether another one has changed.
func TestGroupsShareNothing(t *testing.T) {
	l := on("c", "a", "b", "a", "c", "b", "a", "d", "c")
	want := [][]int{{1, 3, 6}, {2, 5}, {0, 4, 8}, {7}}
	for number := range want {
		groups := Groups(l)
		whole := groups[number][:cap(groups[number])]
		for i := range whole {
			whole[i] = -9
		}
		_ = append(groups[number], -9, -9, -9)
		for other := range want {
			if other != number && !slices.Equal(groups[other], want[other]) {
				t.Errorf("writing into group %d makes group %d %v, want %v", number, other, groups[other], want[other])
			}
		}
	}
}
