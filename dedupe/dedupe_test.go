package dedupe

import (
	"math"
	"math/rand"
	"slices"
	"strconv"
	"strings"
	"testing"

	"merkhet/api"
	"merkhet/span"
)

const trace = 4

// record is a record of the trace.
func record(id uint64, start int64, host string) api.Span {
	return api.Span{Trace: trace, ID: id, Host: host, Name: "n", Start: start}
}

// with is a span with something changed.
func with(s api.Span, change func(s *api.Span)) api.Span {
	change(&s)
	return s
}

// holdOf tells where the records that count aren't those that are wanted, in that order.
func holdOf(t *testing.T, what string, l []api.Span, want ...api.Span) {
	t.Helper()
	if got := Of(l, trace); !slices.Equal(got, want) {
		t.Errorf("%s: %v, want %v", what, got, want)
	}
}

func TestOfExample(t *testing.T) {
	five, three := record(1, 5, "h"), record(1, 3, "h")
	holdOf(t, "5, 3", []api.Span{five, three}, three)
	holdOf(t, "3, 5", []api.Span{three, five}, three)
}

func TestOfNone(t *testing.T) {
	if got := Of(nil, trace); len(got) != 0 {
		t.Error(got)
	}
	if got := Of([]api.Span{}, trace); len(got) != 0 {
		t.Error(got)
	}
	l := []api.Span{record(1, 5, "h"), record(2, 3, "h")}
	for _, other := range []uint64{0, trace - 1, trace + 1, trace + 1<<32, trace + 1<<63, math.MaxUint64} {
		if got := Of(l, other); len(got) != 0 {
			t.Errorf("trace %d: %v", other, got)
		}
	}
}

func TestOfTrace0(t *testing.T) {
	// Spans of trace 0 may not be, even if that is the trace that is asked for.
	l := []api.Span{with(record(1, 5, "h"), func(s *api.Span) { s.Trace = 0 }), {}, record(2, 5, "h")}
	if got := Of(l, 0); len(got) != 0 {
		t.Error(got)
	}
}

func TestOfEachID(t *testing.T) {
	one := record(9, 5, "h")
	holdOf(t, "one", []api.Span{one}, one)
	ids := []uint64{1, 2, 1 << 31, 1<<32 + 1, 1<<32 + 2, 1<<53 + 1, 1<<53 + 2, 1<<63 + 1, math.MaxUint64 - 1, math.MaxUint64}
	var l, want []api.Span
	for _, id := range ids {
		want = append(want, record(id, 5, "h"))
		l = append(l, record(id, 7, "h"), record(id, 5, "h"), record(id, 6, "h"))
	}
	holdOf(t, "all at once", l, want...)
	slices.Reverse(l)
	holdOf(t, "all at once, turned round", l, want...)
}

func TestOfInTheOrderOfSpans(t *testing.T) {
	// By Start ahead of ID, so that neither the order of IDs nor that in which they were met tells.
	l := []api.Span{record(2, 9, "b"), record(1, 7, "c"), record(4, 8, "a"), record(3, 5, "d"), record(5, 7, "a")}
	holdOf(t, "unlike starts", l, l[3], l[1], l[4], l[2], l[0])
	// The record of 1 that counts comes last, and stands ahead of all.
	l = append(l, record(1, 2, "z"))
	holdOf(t, "a later one counts", l, l[5], l[3], l[4], l[2], l[0])
	// The record of 3 that comes last doesn't count, though its ID does.
	l = append(l, record(3, 50, "a"))
	holdOf(t, "an earlier one counts", l, l[5], l[3], l[4], l[2], l[0])
}

// raises raise one field each that records of one ID may differ in, in the order of fields.
func raises() []func(s *api.Span) {
	return []func(s *api.Span){
		func(s *api.Span) { s.Start++ },
		func(s *api.Span) { s.Parent++ },
		func(s *api.Span) { s.Kind++ },
		func(s *api.Span) { s.Dur++ },
		func(s *api.Span) { s.Host += "a" },
		func(s *api.Span) { s.Name += "a" },
	}
}

func TestOfEachFieldTells(t *testing.T) {
	all := raises()
	for i, raise := range all {
		ahead, behind := record(9, 5, "h"), record(9, 5, "h")
		raise(&behind)
		holdOf(t, "ahead first, field "+strconv.Itoa(i), []api.Span{ahead, behind}, ahead)
		holdOf(t, "behind first, field "+strconv.Itoa(i), []api.Span{behind, ahead}, ahead)
		for _, later := range all[i+1:] {
			later(&ahead)
		}
		holdOf(t, "later fields raised, ahead first, field "+strconv.Itoa(i), []api.Span{ahead, behind}, ahead)
		holdOf(t, "later fields raised, behind first, field "+strconv.Itoa(i), []api.Span{behind, ahead}, ahead)
	}
}

// bends change one thing of a record, so that it may not be, or isn't the trace's any more.
func bends() []func(s *api.Span) {
	return []func(s *api.Span){
		func(s *api.Span) { s.Trace = 0 },
		func(s *api.Span) { s.Trace = trace - 1 },
		func(s *api.Span) { s.Trace = trace + 1 },
		func(s *api.Span) { s.Trace = trace + 1<<32 },
		func(s *api.Span) { s.Trace = math.MaxUint64 },
		func(s *api.Span) { s.ID = 0 },
		func(s *api.Span) { s.Parent = s.ID },
		func(s *api.Span) { s.Kind = 3 },
		func(s *api.Span) { s.Kind = 255 },
		func(s *api.Span) { s.Host = "" },
		func(s *api.Span) { s.Host = "A" },
		func(s *api.Span) { s.Host = strings.Repeat("a", api.MaxName+1) },
		func(s *api.Span) { s.Name = "" },
		func(s *api.Span) { s.Name = "A" },
		func(s *api.Span) { s.Name = strings.Repeat("a", api.MaxName+1) },
		func(s *api.Span) { s.Start = -1 },
		func(s *api.Span) { s.Start = math.MinInt64 },
		func(s *api.Span) { s.Start = api.MaxTime },
		func(s *api.Span) { s.Dur = -1 },
		func(s *api.Span) { s.Dur = math.MinInt64 },
		func(s *api.Span) { s.Dur = api.MaxTime + 1 },
	}
}

func TestOfRecordsAlone(t *testing.T) {
	counts := record(7, 5, "h")
	var all []api.Span
	for i, bend := range bends() {
		bent := record(7, 3, "h") // ahead of what counts, but for what is bent
		bend(&bent)
		what := "bent " + strconv.Itoa(i)
		holdOf(t, what+" alone", []api.Span{bent})
		holdOf(t, what+" first", []api.Span{bent, counts}, counts)
		holdOf(t, what+" last", []api.Span{counts, bent}, counts)
		all = append(all, bent)
	}
	holdOf(t, "all that are bent", all)
	holdOf(t, "all that are bent, and one that counts", append(all, counts), counts)
}

func TestOfRecordsAtTheEdges(t *testing.T) {
	l := []api.Span{
		with(record(1, 0, "h"), func(s *api.Span) { s.Dur = api.MaxTime }),
		with(record(2, 1, strings.Repeat("h", api.MaxName)), func(s *api.Span) { s.Parent = math.MaxUint64 }),
		with(record(3, 2, "h"), func(s *api.Span) { s.Kind, s.Parent = api.Server, 1 }),
		with(record(math.MaxUint64, api.MaxTime-1, "h"), func(s *api.Span) { s.Dur = api.MaxTime }),
	}
	holdOf(t, "edges", l, l...)
	for i := range l {
		l[i].Trace = math.MaxUint64
	}
	if got := Of(l, math.MaxUint64); !slices.Equal(got, l) {
		t.Error(got)
	}
}

func TestOfTracesThatShareIDs(t *testing.T) {
	ours := []api.Span{record(1, 5, "h"), record(2, 6, "h")}
	var l []api.Span
	for _, s := range ours {
		for _, other := range []uint64{1, 2, 3, 5} {
			l = append(l, with(s, func(s *api.Span) { s.Trace, s.Start = other, s.Start-1 }))
		}
		l = append(l, s)
	}
	holdOf(t, "ours", l, ours...)
	for _, other := range []uint64{1, 2, 3, 5} {
		got := Of(l, other)
		if len(got) != 2 || got[0].Trace != other || got[1].Trace != other || got[0].ID != 1 || got[1].ID != 2 {
			t.Errorf("trace %d: %v", other, got)
		}
	}
}

func TestOfMoreThanAnyLimit(t *testing.T) {
	// What is too many, later layers say.
	var l, want []api.Span
	for i := range 3000 {
		s := record(uint64(i)+1, int64(i), "h"+strconv.Itoa(i))
		want = append(want, s)
		l = append(l, with(s, func(s *api.Span) { s.Dur++ }), s)
	}
	slices.Reverse(l)
	holdOf(t, "many", l, want...)
}

// told is what Of has to answer, told plainly: all records in order, and of each ID the first.
func told(l []api.Span, trace uint64) []api.Span {
	var out []api.Span
	for _, s := range span.Sort(l) {
		met := slices.ContainsFunc(out, func(o api.Span) bool { return o.ID == s.ID })
		if s.Trace == trace && span.May(s) && !met {
			out = append(out, s)
		}
	}
	return out
}

// drawn is a span with few values for each field, so that many share IDs, traces and more.
func drawn(r *rand.Rand) api.Span {
	s := record(uint64(1+r.Intn(5)), int64(r.Intn(3)), []string{"a", "ab", "b"}[r.Intn(3)])
	s.Trace = uint64(trace + r.Intn(2))
	s.Parent = uint64(r.Intn(7))
	s.Kind = uint8(r.Intn(4))
	s.Dur = int64(r.Intn(3)) - int64(r.Intn(8)/7)
	s.Name = []string{"n", "m", "m.n"}[r.Intn(3)]
	return s
}

func drawnList(r *rand.Rand) []api.Span {
	l := make([]api.Span, r.Intn(20))
	for i := range l {
		l[i] = drawn(r)
	}
	return l
}

func TestOfDrawn(t *testing.T) {
	r := rand.New(rand.NewSource(9))
	sizes := map[int]int{}
	for range 3000 {
		l := drawnList(r)
		want := told(l, trace)
		sizes[len(want)]++
		if got := Of(l, trace); !slices.Equal(got, want) {
			t.Fatalf("%v: %v, want %v", l, got, want)
		}
	}
	for size := range 6 {
		if sizes[size] == 0 {
			t.Errorf("none of the lists drawn had %d records that count", size)
		}
	}
}

// orders hands on each order of spans.
func orders(l []api.Span, at int, each func(l []api.Span)) {
	if at == len(l) {
		each(l)
		return
	}
	for i := at; i < len(l); i++ {
		l[at], l[i] = l[i], l[at]
		orders(l, at+1, each)
		l[at], l[i] = l[i], l[at]
	}
}

// TestOfASet is of P9.2: each order, each record there once to three times.
func TestOfASet(t *testing.T) {
	l := []api.Span{
		record(1, 5, "h"), record(1, 5, "g"), record(2, 3, "h"), record(3, 5, "h"),
		with(record(1, 5, "g"), func(s *api.Span) { s.Dur = 1 }), with(record(2, 2, "h"), func(s *api.Span) { s.Trace = 5 }),
	}
	want := []api.Span{l[2], l[1], l[3]}
	orders(slices.Clone(l), 0, func(in []api.Span) { holdOf(t, "an order", in, want...) })
	for times := range 729 {
		var in []api.Span
		for i, s := range l {
			in = append(in, slices.Repeat([]api.Span{s}, 1+times/pow3(i)%3)...)
		}
		holdOf(t, "repeated", in, want...)
		slices.Reverse(in)
		holdOf(t, "repeated, turned round", in, want...)
	}
}

func pow3(n int) int {
	p := 1
	for range n {
		p *= 3
	}
	return p
}

// TestOfASetDrawn is of P9.2: drawn spans, shuffled, with some of them there again and others' spans among them.
func TestOfASetDrawn(t *testing.T) {
	r := rand.New(rand.NewSource(92))
	for range 2000 {
		l := drawnList(r)
		want := Of(l, trace)
		more := slices.Clone(l)
		for range 1 + r.Intn(5) {
			if len(l) > 0 {
				more = append(more, l[r.Intn(len(l))])
			}
			more = append(more, with(drawn(r), func(s *api.Span) { s.Trace = trace + 2 }))
		}
		r.Shuffle(len(more), func(i, k int) { more[i], more[k] = more[k], more[i] })
		if got := Of(more, trace); !slices.Equal(got, want) {
			t.Fatalf("%v: %v, want %v", more, got, want)
		}
		if again := Of(want, trace); !slices.Equal(again, want) {
			t.Fatalf("of what counts in %v: %v, want %v", l, again, want)
		}
	}
}

func TestOfLeavesItsArgument(t *testing.T) {
	ordered := []api.Span{record(1, 5, "h"), record(2, 6, "h"), record(3, 7, "h")}
	mixed := []api.Span{record(2, 6, "h"), record(1, 5, "h"), record(2, 4, "h"), record(3, 0, ""), record(1, 5, "h")}
	for _, l := range [][]api.Span{ordered, mixed} {
		kept := slices.Clone(l)
		out := Of(l[:len(l)-1], trace)
		if !slices.Equal(l, kept) {
			t.Error("the list that was handed in has changed")
		}
		want := slices.Clone(out)
		clear(l)
		if !slices.Equal(out, want) {
			t.Error("writing into what was handed in changes the answer")
		}
		copy(l, kept)
		clear(out)
		_ = append(out[:0], make([]api.Span, cap(out))...)
		if !slices.Equal(l, kept) {
			t.Error("writing into the answer changes what was handed in")
		}
		if again := Of(l[:len(l)-1], trace); !slices.Equal(again, want) {
			t.Error("writing into the answer changes the next one")
		}
	}
}

// on are spans on hosts.
func on(hosts ...string) []api.Span {
	var l []api.Span
	for i, h := range hosts {
		l = append(l, record(uint64(i)+1, int64(i), h))
	}
	return l
}

func TestHosts(t *testing.T) {
	for _, c := range []struct{ hosts, want []string }{
		{nil, nil},
		{[]string{"a"}, []string{"a"}},
		{[]string{"a", "a", "a"}, []string{"a"}},
		{[]string{"b", "a", "b"}, []string{"a", "b"}},
		{[]string{"c", "b", "a", "b", "c", "a"}, []string{"a", "b", "c"}},
		{[]string{"ab", "a", "b", "aa", "abc"}, []string{"a", "aa", "ab", "abc", "b"}},
		{[]string{"_", "a", "9", "-", "0", ".", "z"}, []string{"-", ".", "0", "9", "_", "a", "z"}},
		{[]string{"host10", "host9", "host1"}, []string{"host1", "host10", "host9"}},
		{[]string{"a", "", "a", ""}, []string{"", "a"}},
		{[]string{"\xff", "é", "a", "Z", "\x00", "a\x00", "A", " "}, []string{"\x00", " ", "A", "Z", "a", "a\x00", "é", "\xff"}},
		{[]string{strings.Repeat("a", 17), strings.Repeat("a", 16)}, []string{strings.Repeat("a", 16), strings.Repeat("a", 17)}},
	} {
		if got := Hosts(on(c.hosts...)); !slices.Equal(got, c.want) {
			t.Errorf("%q: %q, want %q", c.hosts, got, c.want)
		}
	}
}

func TestHostsOfAllSpans(t *testing.T) {
	// Of each trace, and of spans that may not be, too: one host for each bent span.
	var l []api.Span
	var want []string
	for i, bend := range bends() {
		s := record(7, 3, "h"+strconv.Itoa(100+i))
		bend(&s)
		l = append(l, s)
		want = append(want, s.Host)
	}
	slices.Sort(want)
	if got := Hosts(l); !slices.Equal(got, slices.Compact(want)) {
		t.Errorf("%q, want %q", got, want)
	}
	if got := Hosts([]api.Span{{}}); !slices.Equal(got, []string{""}) {
		t.Errorf("of a span of zero values: %q", got)
	}
}

func TestHostsMoreThanAnyLimit(t *testing.T) {
	var hosts []string
	for i := range 2000 {
		hosts = append(hosts, strconv.Itoa(1000+i*7%1000))
	}
	got := Hosts(on(hosts...))
	if len(got) != 1000 || got[0] != "1000" || got[999] != "1999" || !slices.IsSorted(got) {
		t.Errorf("%d hosts: %q", len(got), got)
	}
}

func TestHostsLeavesItsArgument(t *testing.T) {
	l := on("b", "a", "b", "c")
	kept := slices.Clone(l)
	out := Hosts(l)
	if !slices.Equal(l, kept) {
		t.Error("the list that was handed in has changed")
	}
	clear(l)
	if !slices.Equal(out, []string{"a", "b", "c"}) {
		t.Error("writing into what was handed in changes the answer")
	}
	clear(out)
	if got := Hosts(kept); !slices.Equal(got, []string{"a", "b", "c"}) {
		t.Error("writing into the answer changes the next one")
	}
}

func TestPlace(t *testing.T) {
	for _, c := range []struct {
		l    []string
		s    string
		want int
	}{
		{nil, "a", -1},
		{nil, "", -1},
		{[]string{}, "a", -1},
		{[]string{"a"}, "a", 0},
		{[]string{"a"}, "b", -1},
		{[]string{"a"}, "", -1},
		{[]string{"a", "b", "c"}, "a", 0},
		{[]string{"a", "b", "c"}, "b", 1},
		{[]string{"a", "b", "c"}, "c", 2},
		{[]string{"a", "b", "c"}, "d", -1},
		{[]string{"a", "c"}, "b", -1},
		{[]string{"a", "c"}, "Z", -1},
		{[]string{"x", "x"}, "x", 0},
		{[]string{"a", "x", "x", "a", "x"}, "x", 1},
		{[]string{"a", "x", "x", "a", "x"}, "a", 0},
		// Of a list that isn't in order, too.
		{[]string{"c", "a", "b"}, "a", 1},
		{[]string{"c", "a", "b"}, "b", 2},
		{[]string{"c", "a", "b"}, "c", 0},
		{[]string{"c", "b", "a", "b", "c"}, "b", 1},
		// Texts that others begin with, and any bytes.
		{[]string{"ab", "a"}, "a", 1},
		{[]string{"a", "ab"}, "ab", 1},
		{[]string{"ab"}, "a", -1},
		{[]string{"a"}, "ab", -1},
		{[]string{"ab"}, "b", -1},
		{[]string{"a", "", ""}, "", 1},
		{[]string{"A"}, "a", -1},
		{[]string{"\xfe", "\xff"}, "\xff", 1},
		{[]string{"\ufffd"}, "\xff", -1},
		{[]string{"a\x00"}, "a", -1},
	} {
		if got := Place(c.l, c.s); got != c.want {
			t.Errorf("%q in %q: %d, want %d", c.s, c.l, got, c.want)
		}
	}
}

func TestPlaceOfHosts(t *testing.T) {
	hosts := Hosts(on("b", "a", "d", "b"))
	for i, h := range hosts {
		if got := Place(hosts, h); got != i {
			t.Errorf("%q: %d, want %d", h, got, i)
		}
	}
	if got := Place(hosts, "c"); got != -1 {
		t.Errorf("c: %d", got)
	}
}

func TestPlaceLeavesItsArgument(t *testing.T) {
	l := []string{"c", "a", "b", "a"}
	Place(l, "b")
	Place(l, "q")
	if !slices.Equal(l, []string{"c", "a", "b", "a"}) {
		t.Error(l)
	}
}
