package rpc

import (
	"math"
	"math/rand"
	"slices"
	"testing"

	"merkhet/api"
	"merkhet/parent"
	"merkhet/span"
)

// of is a span of a kind, from start on, so long, that may be.
func of(kind uint8, start, dur int64) api.Span {
	return api.Span{Trace: 1, ID: 7, Kind: kind, Host: "h", Name: "n", Start: start, Dur: dur}
}

// ofKinds are spans of these kinds, with IDs of their own.
func ofKinds(kinds ...uint8) []api.Span {
	var l []api.Span
	for i, k := range kinds {
		s := of(k, 5, 5)
		s.ID = uint64(i) + 1
		l = append(l, s)
	}
	return l
}

// pair is a client's place and a server's.
func pair(client, server int) api.Pair { return api.Pair{Client: client, Server: server} }

// holdOf tells where the pairs of spans aren't those that are wanted.
func holdOf(t *testing.T, what string, l []api.Span, parents []int, want ...api.Pair) {
	t.Helper()
	if got := Of(l, parents); !slices.Equal(got, want) {
		t.Errorf("%s, %v: %v, want %v", what, parents, got, want)
	}
}

// holdGaps tells where a pair's lead and rest aren't those that are wanted, or it isn't within just if neither is below 0. It holds P12.2 of them, too.
func holdGaps(t *testing.T, what string, l []api.Span, p api.Pair, lead, rest int64) {
	t.Helper()
	gotLead, gotRest, ok := Gaps(l, p)
	if !ok || gotLead != lead || gotRest != rest {
		t.Errorf("%s, %v: %d, %d, %v, want %d, %d", what, p, gotLead, gotRest, ok, lead, rest)
	}
	if got, want := Within(l, p), lead >= 0 && rest >= 0; got != want {
		t.Errorf("%s, %v: within %v, want %v", what, p, got, want)
	}
	holdFit(t, what, l, p)
}

// holdFit holds P12.2: lead and rest, together with the server's Dur, are the client's.
func holdFit(t *testing.T, what string, l []api.Span, p api.Pair) {
	t.Helper()
	lead, rest, ok := Gaps(l, p)
	if !ok || lead+l[p.Server].Dur+rest != l[p.Client].Dur {
		t.Errorf("%s, %v: %d and %d don't fit %d in %d, or %v", what, p, lead, rest, l[p.Server].Dur, l[p.Client].Dur, ok)
	}
}

// holdNoGaps tells where a pair has a lead or a rest, or is within, that ought not to.
func holdNoGaps(t *testing.T, what string, l []api.Span, p api.Pair) {
	t.Helper()
	if lead, rest, ok := Gaps(l, p); ok || lead != 0 || rest != 0 {
		t.Errorf("%s, %v: %d, %d, %v, want zeros and false", what, p, lead, rest, ok)
	}
	if Within(l, p) {
		t.Errorf("%s, %v: within", what, p)
	}
}

func TestExample(t *testing.T) {
	l := []api.Span{of(api.Client, 5, 15), of(api.Server, 8, 4)}
	holdOf(t, "example", l, []int{-1, 0}, pair(0, 1))
	holdGaps(t, "example", l, pair(0, 1), 3, 8)
}

func TestOfOrdinary(t *testing.T) {
	const in, cl, sv = api.Inside, api.Client, api.Server
	for _, c := range []struct {
		what    string
		kinds   []uint8
		parents []int
		want    []api.Pair
	}{
		{"a server behind its client", []uint8{cl, sv}, []int{-1, 0}, []api.Pair{pair(0, 1)}},
		{"a server ahead of its client", []uint8{sv, cl}, []int{1, -1}, []api.Pair{pair(1, 0)}},
		{"several servers of a client", []uint8{cl, sv, sv, sv}, []int{-1, 0, 0, 0}, []api.Pair{pair(0, 1), pair(0, 2), pair(0, 3)}},
		{"servers rise, clients don't", []uint8{sv, sv, sv, cl, cl}, []int{4, 3, 4, -1, -1}, []api.Pair{pair(4, 0), pair(3, 1), pair(4, 2)}},
		{"a client on both sides", []uint8{sv, cl, sv}, []int{1, -1, 1}, []api.Pair{pair(1, 0), pair(1, 2)}},
		{"a chain of calls", []uint8{cl, sv, cl, sv, in, cl, sv}, []int{-1, 0, 1, 2, 3, 4, 5}, []api.Pair{pair(0, 1), pair(2, 3), pair(5, 6)}},
		{"one between", []uint8{cl, in, sv}, []int{-1, 0, 1}, nil},
		{"a server below a server", []uint8{cl, sv, sv}, []int{-1, 0, 1}, []api.Pair{pair(0, 1)}},
		{"no parents", []uint8{cl, sv, sv}, []int{-1, -1, -1}, nil},
		{"a client below its server", []uint8{cl, sv}, []int{1, -1}, nil},
	} {
		holdOf(t, c.what, ofKinds(c.kinds...), c.parents, c.want...)
	}
}

func TestOfEachKind(t *testing.T) {
	for above := range 256 {
		for below := range 256 {
			l := ofKinds(uint8(above), uint8(below))
			var want []api.Pair
			if above == 1 && below == 2 {
				want = []api.Pair{pair(0, 1)}
			}
			holdOf(t, "kinds", l, []int{-1, 0}, want...)
		}
	}
}

func TestOfNone(t *testing.T) {
	for _, l := range [][]api.Span{nil, {}} {
		for _, parents := range [][]int{nil, {}} {
			holdOf(t, "none", l, parents)
		}
		holdOf(t, "no spans", l, []int{-1})
	}
	for kind := range uint8(3) {
		holdOf(t, "alone", ofKinds(kind), []int{-1})
		holdOf(t, "its own parent", ofKinds(kind), []int{0})
	}
}

func TestOfMoreOrFewerParents(t *testing.T) {
	l := ofKinds(api.Client, api.Server, api.Server)
	holdOf(t, "as many", l, []int{-1, 0, 0}, pair(0, 1), pair(0, 2))
	for _, parents := range [][]int{nil, {}, {-1}, {-1, 0}, {-1, 0, 0, -1}, {-1, 0, 0, 0}, {-1, 0, 0, 3}, {-1, 0, 0, -1, -1, -1}} {
		holdOf(t, "not as many", l, parents)
	}
	// What lies behind the list in its memory isn't of it.
	behind := ofKinds(api.Client, api.Server)
	holdOf(t, "spans behind", behind[:1], []int{-1, 0})
	holdOf(t, "parents behind", behind, []int{-1, 0}[:1])
}

// wild are numbers that are no places of three; also those of which the lower half would do.
func wild() []int {
	return []int{math.MinInt, math.MinInt + 1, math.MinInt32, -1 << 32, -1<<32 + 1, -3, -2, 3, 4, math.MaxInt32, math.MaxUint32, 1 << 32, 1<<32 + 1, 1 << 62, math.MaxInt - 1, math.MaxInt}
}

func TestOfParentsOutOfRange(t *testing.T) {
	// One such parent leaves no pair, at whichever span it is.
	l := ofKinds(api.Client, api.Server, api.Inside)
	for _, p := range wild() {
		for place := range l {
			parents := []int{-1, 0, 0}
			parents[place] = p
			holdOf(t, "out of range", l, parents)
		}
		// Nor at one that may not be.
		none := append(ofKinds(api.Client, api.Server), api.Span{})
		holdOf(t, "out of range, where none may be", none, []int{-1, 0, p})
	}
	holdOf(t, "-1 and the last place", l, []int{-1, 0, 2}, pair(0, 1))
	holdOf(t, "the last place", ofKinds(api.Server, api.Inside, api.Client), []int{2, 2, -1}, pair(2, 0))
}

func TestOfParentsAsTheyAre(t *testing.T) {
	// The places that are handed in tell, not the numbers in the spans; nor need they be right.
	l := ofKinds(api.Client, api.Server, api.Client)
	l[1].Parent = l[0].ID
	holdOf(t, "another one than the span asks for", l, []int{-1, 2, -1}, pair(2, 1))
	holdOf(t, "none, though the span asks for one", l, []int{-1, -1, -1})
	holdOf(t, "a cycle", l, []int{1, 0, -1}, pair(0, 1))
	holdOf(t, "a cycle beside it", l, []int{0, 0, 2}, pair(0, 1))
	holdOf(t, "a cycle above it", l, []int{2, 0, 0}, pair(0, 1))
}

func TestOfParentOf(t *testing.T) {
	// With layer 10's parents: the first of an ID, none of a cycle's first.
	l := ofKinds(api.Client, api.Server, api.Server, api.Client, api.Server)
	l[1].Parent, l[2].Parent, l[4].Parent = 1, 9, 1
	l[3].ID = 1
	holdOf(t, "the first of an ID", l, parent.Of(l), pair(0, 1), pair(0, 4))
	l = ofKinds(api.Server, api.Client)
	l[0].Parent, l[1].Parent = 2, 1
	holdOf(t, "it lost its parent", l, parent.Of(l))
	slices.Reverse(l)
	holdOf(t, "the other one lost it", l, parent.Of(l), pair(0, 1))
}

func TestUnlikeTraceAndHost(t *testing.T) {
	// Neither trace, host nor name is held against the other's.
	l := []api.Span{of(api.Client, 5, 15), of(api.Server, 8, 4)}
	l[1].Trace, l[1].ID, l[1].Host, l[1].Name = 2, 8, "i", "m"
	holdOf(t, "unlike", l, []int{-1, 0}, pair(0, 1))
	holdGaps(t, "unlike", l, pair(0, 1), 3, 8)
	l[1].Trace, l[1].ID, l[1].Host, l[1].Name = 1, 7, "h", "n"
	holdOf(t, "alike", l, []int{-1, 0}, pair(0, 1))
	holdGaps(t, "alike", l, pair(0, 1), 3, 8)
}

// mayNot are changes by each of which a span may not be.
func mayNot() map[string]func(*api.Span) {
	return map[string]func(*api.Span){
		"Trace 0":        func(s *api.Span) { s.Trace = 0 },
		"ID 0":           func(s *api.Span) { s.ID = 0 },
		"its own Parent": func(s *api.Span) { s.Parent = s.ID },
		"no Host":        func(s *api.Span) { s.Host = "" },
		"wrong Host":     func(s *api.Span) { s.Host = "H" },
		"long Host":      func(s *api.Span) { s.Host = "aaaaaaaaaaaaaaaaa" },
		"no Name":        func(s *api.Span) { s.Name = "" },
		"wrong Name":     func(s *api.Span) { s.Name = "a b" },
		"Start below 0":  func(s *api.Span) { s.Start = -1 },
		"Start too late": func(s *api.Span) { s.Start = api.MaxTime },
		"least Start":    func(s *api.Span) { s.Start = math.MinInt64 },
		"greatest Start": func(s *api.Span) { s.Start = math.MaxInt64 },
		"Dur below 0":    func(s *api.Span) { s.Dur = -1 },
		"Dur too long":   func(s *api.Span) { s.Dur = api.MaxTime + 1 },
		"least Dur":      func(s *api.Span) { s.Dur = math.MinInt64 },
		"greatest Dur":   func(s *api.Span) { s.Dur = math.MaxInt64 },
	}
}

func TestSpansThatMayNotBe(t *testing.T) {
	parents := []int{-1, 0, 0, -1, 3}
	for what, change := range mayNot() {
		whole := ofKinds(api.Client, api.Server, api.Server, api.Client, api.Server)
		holdOf(t, "whole", whole, parents, pair(0, 1), pair(0, 2), pair(3, 4))
		for place, want := range [][]api.Pair{
			{pair(3, 4)},
			{pair(0, 2), pair(3, 4)},
			{pair(0, 1), pair(3, 4)},
			{pair(0, 1), pair(0, 2)},
			{pair(0, 1), pair(0, 2)},
		} {
			l := slices.Clone(whole)
			change(&l[place])
			holdOf(t, what, l, parents, want...)
			holdNoGaps(t, what, l, pair(place, (place+1)%5))
			holdNoGaps(t, what, l, pair((place+4)%5, place))
			holdNoGaps(t, what, l, pair(place, place))
			holdGaps(t, what+" elsewhere", l, pair((place+1)%5, (place+2)%5), 0, 0)
		}
	}
	kind := of(3, 8, 4)
	holdNoGaps(t, "no kind", []api.Span{of(api.Client, 5, 15), kind}, pair(0, 1))
	holdNoGaps(t, "no kind", []api.Span{kind, of(api.Server, 8, 4)}, pair(0, 1))
}

func TestGapsOrdinary(t *testing.T) {
	const last = api.MaxTime - 1
	for _, c := range []struct {
		what                                       string
		start, dur, serverStart, serverDur, le, re int64
	}{
		{"within", 5, 15, 8, 4, 3, 8},
		{"the same", 5, 15, 5, 15, 0, 0},
		{"begins with it", 5, 15, 5, 14, 0, 1},
		{"ends with it", 5, 15, 6, 14, 1, 0},
		{"begins one sooner", 5, 15, 4, 16, -1, 0},
		{"ends one later", 5, 15, 5, 16, 0, -1},
		{"sooner, as long", 5, 15, 4, 15, -1, 1},
		{"later, as long", 5, 15, 6, 15, 1, -1},
		{"longer on both sides", 5, 15, 4, 20, -1, -4},
		{"all ahead of it", 50, 10, 3, 4, -47, 53},
		{"all behind it", 3, 4, 50, 10, 47, -53},
		{"neither takes time", 9, 0, 9, 0, 0, 0},
		{"the server takes no time, at the end", 9, 6, 15, 0, 6, 0},
		{"the client takes no time", 9, 0, 9, 1, 0, -1},
		{"from 0 on", 0, 1, 0, 1, 0, 0},
		{"the latest client", last, api.MaxTime, 0, 0, -last, last + api.MaxTime},
		{"the latest server", 0, 0, last, api.MaxTime, last, -last - api.MaxTime},
		{"both the latest", last, api.MaxTime, last, api.MaxTime, 0, 0},
		{"the longest client", 0, api.MaxTime, last, 1, last, 0},
		{"the longest server", last, 0, 0, api.MaxTime, -last, -1},
		{"beyond 32 bits", 1 << 33, 1 << 35, 1<<33 + 1<<32, 1 << 34, 1 << 32, 1<<35 - 1<<34 - 1<<32},
		{"one beside many bits", 1, 1<<49 + 1, 2, 1 << 49, 1, 0},
	} {
		l := []api.Span{of(api.Client, c.start, c.dur), of(api.Server, c.serverStart, c.serverDur)}
		holdGaps(t, c.what, l, pair(0, 1), c.le, c.re)
		// The other way round each is as much sooner as it was later.
		holdGaps(t, c.what+", round", l, pair(1, 0), -c.le, -c.re)
		slices.Reverse(l)
		holdGaps(t, c.what+", reversed", l, pair(1, 0), c.le, c.re)
	}
}

func TestGapsOfAnyKinds(t *testing.T) {
	// Which kinds both are isn't asked, nor whether one is below the other; one place may be both.
	for above := range uint8(3) {
		for below := range uint8(3) {
			l := []api.Span{of(above, 5, 15), of(below, 8, 4), of(above, 0, 99)}
			holdGaps(t, "kinds", l, pair(0, 1), 3, 8)
			holdGaps(t, "kinds, far", l, pair(2, 1), 8, 87)
			holdGaps(t, "the same place", l, pair(1, 1), 0, 0)
		}
	}
}

func TestGapsOfNoPlaces(t *testing.T) {
	l := ofKinds(api.Client, api.Server, api.Client)
	for _, p := range append(wild(), -1) {
		for place := range l {
			holdNoGaps(t, "the client", l, pair(p, place))
			holdNoGaps(t, "the server", l, pair(place, p))
		}
		holdNoGaps(t, "both", l, pair(p, p))
		holdNoGaps(t, "no spans", nil, pair(p, p))
	}
	for _, none := range [][]api.Span{nil, {}} {
		for _, p := range []api.Pair{pair(0, 0), pair(0, 1), pair(1, 0), pair(-1, 0), pair(0, -1)} {
			holdNoGaps(t, "no spans", none, p)
		}
	}
	// What lies behind the list in its memory isn't of it.
	holdNoGaps(t, "behind", l[:2], pair(0, 2))
	holdNoGaps(t, "behind", l[:2], pair(2, 1))
	holdGaps(t, "the last", l, pair(2, 1), 0, 0)
}

// toldOf is what Of has to answer, told plainly.
func toldOf(l []api.Span, parents []int) []api.Pair {
	if len(l) != len(parents) || slices.ContainsFunc(parents, func(p int) bool { return p < -1 || p >= len(l) }) {
		return nil
	}
	var out []api.Pair
	for server, s := range l {
		for client, c := range l {
			if parents[server] == client && span.May(s) && span.May(c) && s.Kind == api.Server && c.Kind == api.Client {
				out = append(out, pair(client, server))
			}
		}
	}
	return out
}

// TestOfAllShort holds up to four spans of each kind or of none, and each row of parents of them from -2 to as many as there are.
func TestOfAllShort(t *testing.T) {
	for size := range 5 {
		found := 0
		each(size, 4*(size+3), func(picks []int) {
			kinds, parents := make([]uint8, size), make([]int, size)
			for i, p := range picks {
				kinds[i], parents[i] = uint8(p%4), p/4-2
			}
			l := ofKinds(kinds...)
			got, want := Of(l, parents), toldOf(l, parents)
			if !slices.Equal(got, want) {
				t.Fatalf("%v, %v: %v, want %v", kinds, parents, got, want)
			}
			found += len(got)
		})
		if size > 1 && found == 0 {
			t.Errorf("no pair of %d spans", size)
		}
	}
}

// each hands on each row of so many numbers from 0 to ahead of most.
func each(size, most int, hold func(picks []int)) {
	picks := make([]int, size)
	for {
		hold(picks)
		at := 0
		for at < size && picks[at] == most-1 {
			picks[at] = 0
			at++
		}
		if at == size {
			return
		}
		picks[at]++
	}
}

// TestGapsAllShort holds each client and each server that begin at 0 to 4 and take 0 to 4.
func TestGapsAllShort(t *testing.T) {
	each(4, 5, func(picks []int) {
		l := []api.Span{of(api.Client, int64(picks[0]), int64(picks[1])), of(api.Server, int64(picks[2]), int64(picks[3]))}
		holdGaps(t, "short", l, pair(0, 1), int64(picks[2]-picks[0]), int64(picks[0]+picks[1]-picks[2]-picks[3]))
	})
}

// drawn are so many spans, of which some may not be, and parents of them.
func drawn(r *rand.Rand, size int) ([]api.Span, []int) {
	l, parents := make([]api.Span, size), make([]int, size)
	for i := range l {
		l[i] = of(uint8(1+r.Intn(2)), r.Int63n(1<<r.Intn(51)), r.Int63n(1<<r.Intn(51)+1))
		l[i].ID = uint64(i) + 1
		switch r.Intn(12) {
		case 0:
			l[i].Kind = uint8(r.Intn(5))
		case 1:
			l[i].Start = -r.Int63n(3)
		case 2:
			l[i].Dur = api.MaxTime + r.Int63n(3) - 1
		}
		parents[i] = r.Intn(size+1) - 1
	}
	return l, parents
}

func TestDrawn(t *testing.T) {
	r := rand.New(rand.NewSource(12))
	within, without := 0, 0
	for range 4000 {
		l, parents := drawn(r, r.Intn(30))
		pairs := Of(l, parents)
		if want := toldOf(l, parents); !slices.Equal(pairs, want) {
			t.Fatalf("%v, %v: %v, want %v", l, parents, pairs, want)
		}
		for _, p := range pairs {
			client, server := l[p.Client], l[p.Server]
			holdGaps(t, "drawn", l, p, server.Start-client.Start, client.Start+client.Dur-server.Start-server.Dur)
			if Within(l, p) {
				within++
			} else {
				without++
			}
		}
	}
	if within == 0 || without == 0 {
		t.Errorf("%d of the pairs drawn are within, %d aren't", within, without)
	}
}

func TestArgumentsStayAsTheyAre(t *testing.T) {
	l := append(ofKinds(api.Client, api.Server, api.Server, api.Client, api.Server), api.Span{})
	parents, want := []int{3, 0, 0, -1, 3, 3, 9}, []api.Pair{pair(0, 1), pair(0, 2), pair(3, 4)}
	keptSpans, keptParents := slices.Clone(l), slices.Clone(parents)
	pairs := Of(l[:5], parents[:5])
	Gaps(l[:5], pair(0, 1))
	Within(l[:5], pair(0, 1))
	if !slices.Equal(l, keptSpans) || !slices.Equal(parents, keptParents) {
		t.Error("what was handed in has changed")
	}
	clear(l)
	clear(parents)
	if !slices.Equal(pairs, want) {
		t.Error("writing into what was handed in changes the answer")
	}
	clear(pairs)
	if again := Of(keptSpans[:5], keptParents[:5]); !slices.Equal(again, want) {
		t.Error("writing into the answer changes the next one")
	}
	holdNoGaps(t, "cleared", l, pair(0, 1))
	holdGaps(t, "kept", keptSpans, pair(0, 1), 0, 0)
}
