package bound

import (
	"math"
	"math/big"
	"math/rand"
	"slices"
	"testing"

	"merkhet/api"
	"merkhet/dedupe"
	"merkhet/hosts"
	"merkhet/parent"
	"merkhet/rpc"
)

// on is a span of a kind on a host, from start on, so long, that may be.
func on(host string, kind uint8, start, dur int64) api.Span {
	return api.Span{Trace: 1, ID: 7, Kind: kind, Host: host, Name: "n", Start: start, Dur: dur}
}

// pair is a client's place and a server's.
func pair(client, server int) api.Pair { return api.Pair{Client: client, Server: server} }

// both are a pair's edges, of these hosts, lead and rest.
func both(p api.Pair, client, server int, lead, rest int64) []api.Edge {
	return []api.Edge{
		{From: server, To: client, Weight: lead, Pair: p},
		{From: client, To: server, Weight: rest, Pair: p, End: true},
	}
}

// edge is one of the start of no pair.
func edge(from, to int, weight int64) api.Edge {
	return api.Edge{From: from, To: to, Weight: weight}
}

// holdOf tells where the edges of pairs aren't those that are wanted.
func holdOf(t *testing.T, what string, l []api.Span, pairs []api.Pair, want ...[]api.Edge) {
	t.Helper()
	if got := Of(l, pairs); !slices.Equal(got, slices.Concat(want...)) {
		t.Errorf("%s, %v: %v, want %v", what, pairs, got, want)
	}
}

// holdHolds tells where an edge holds, or not, other than it is wanted; All has to tell the same of it alone.
func holdHolds(t *testing.T, what string, e api.Edge, offsets []int64, want bool) {
	t.Helper()
	if got := Holds(e, offsets); got != want {
		t.Errorf("%s, %v for %v: holds %v, want %v", what, e, offsets, got, want)
	}
	holdAll(t, what, []api.Edge{e}, offsets, want)
}

// holdAll tells where all edges hold, or not, other than it is wanted.
func holdAll(t *testing.T, what string, edges []api.Edge, offsets []int64, want bool) {
	t.Helper()
	if got := All(edges, offsets); got != want {
		t.Errorf("%s, %v for %v: all hold %v, want %v", what, edges, offsets, got, want)
	}
}

func TestExample(t *testing.T) {
	l := []api.Span{on("a", api.Client, 5, 15), on("b", api.Server, 8, 4)}
	holdOf(t, "example", l, []api.Pair{pair(0, 1)}, []api.Edge{
		{From: 1, To: 0, Weight: 3, Pair: api.Pair{Client: 0, Server: 1}, End: false},
		{From: 0, To: 1, Weight: 8, Pair: api.Pair{Client: 0, Server: 1}, End: true},
	})
}

func TestOfOrdinary(t *testing.T) {
	l := []api.Span{
		on("c", api.Client, 100, 50), on("a", api.Server, 110, 20),
		on("a", api.Client, 30, 9), on("b", api.Server, 20, 10),
		on("b", api.Client, 70, 0), on("c", api.Server, 60, 30),
	}
	first, second, third := pair(0, 1), pair(2, 3), pair(4, 5)
	ofFirst, ofSecond, ofThird := both(first, 2, 0, 10, 20), both(second, 0, 1, -10, 9), both(third, 1, 2, -10, -20)
	for _, c := range []struct {
		what  string
		pairs []api.Pair
		want  [][]api.Edge
	}{
		{"within", []api.Pair{first}, [][]api.Edge{ofFirst}},
		{"begins sooner", []api.Pair{second}, [][]api.Edge{ofSecond}},
		{"begins sooner, ends later", []api.Pair{third}, [][]api.Edge{ofThird}},
		{"several", []api.Pair{first, second, third}, [][]api.Edge{ofFirst, ofSecond, ofThird}},
		{"in the order of the pairs", []api.Pair{third, first, second}, [][]api.Edge{ofThird, ofFirst, ofSecond}},
		{"one several times", []api.Pair{second, first, second}, [][]api.Edge{ofSecond, ofFirst, ofSecond}},
		{"one client of two", []api.Pair{first, pair(0, 3)}, [][]api.Edge{ofFirst, both(pair(0, 3), 2, 1, -80, 120)}},
		{"one server of two", []api.Pair{first, pair(4, 1)}, [][]api.Edge{ofFirst, both(pair(4, 1), 1, 0, 40, -60)}},
	} {
		holdOf(t, c.what, l, c.pairs, c.want...)
	}
}

func TestOfNone(t *testing.T) {
	l := []api.Span{on("a", api.Client, 5, 15), on("b", api.Server, 8, 4)}
	for _, pairs := range [][]api.Pair{nil, {}} {
		for _, spans := range [][]api.Span{nil, {}, l} {
			holdOf(t, "none", spans, pairs)
		}
	}
	for _, spans := range [][]api.Span{nil, {}} {
		holdOf(t, "no spans", spans, []api.Pair{pair(0, 0), pair(0, 1), pair(-1, 0), pair(0, -1)})
	}
}

func TestOfOneHost(t *testing.T) {
	l := []api.Span{on("a", api.Client, 0, 1), on("b", api.Client, 5, 15), on("b", api.Server, 3, 4)}
	holdOf(t, "both on one host", l, []api.Pair{pair(1, 2)}, both(pair(1, 2), 1, 1, -2, 13))
	holdOf(t, "one place twice", l, []api.Pair{pair(1, 1)}, both(pair(1, 1), 1, 1, 0, 0))
}

// TestOfHostsOfAllSpans holds that hosts are numbered by all spans that are handed in, those of no pair and those that may not be, too.
func TestOfHostsOfAllSpans(t *testing.T) {
	l := []api.Span{on("d", api.Client, 5, 15), on("b", api.Server, 8, 4)}
	p := pair(0, 1)
	holdOf(t, "both alone", l, []api.Pair{p}, both(p, 1, 0, 3, 8))
	l = append(l, on("c", api.Inside, 0, 0))
	holdOf(t, "one between", l, []api.Pair{p}, both(p, 2, 0, 3, 8))
	l = append(l, api.Span{Host: "a"})
	holdOf(t, "one that may not be ahead", l, []api.Pair{p}, both(p, 3, 1, 3, 8))
	l = append(l, api.Span{})
	holdOf(t, "one of no host ahead", l, []api.Pair{p}, both(p, 4, 2, 3, 8))
	l = append(l, api.Span{Host: "e"}, on("b", api.Server, 1, 1), on("\xff", api.Server, 1, 1))
	holdOf(t, "others behind", l, []api.Pair{p}, both(p, 4, 2, 3, 8))
}

// TestOfPairsAsTheyAre holds that neither kinds nor parents are asked for: Gaps tells alone.
func TestOfPairsAsTheyAre(t *testing.T) {
	for above := range uint8(3) {
		for below := range uint8(3) {
			l := []api.Span{on("a", above, 5, 15), on("b", below, 8, 4)}
			holdOf(t, "any kinds", l, []api.Pair{pair(0, 1), pair(1, 0)}, both(pair(0, 1), 0, 1, 3, 8), both(pair(1, 0), 1, 0, -3, -8))
		}
	}
	l := []api.Span{on("a", api.Client, 5, 15), on("b", api.Server, 8, 4)}
	l[1].Trace, l[1].ID, l[1].Parent, l[1].Name = 2, 9, 99, "m"
	holdOf(t, "of another trace", l, []api.Pair{pair(0, 1)}, both(pair(0, 1), 0, 1, 3, 8))
}

func TestOfTheGreatestGaps(t *testing.T) {
	const last = api.MaxTime - 1
	l := []api.Span{on("a", api.Client, 0, 0), on("b", api.Server, last, api.MaxTime)}
	holdOf(t, "the latest server", l, []api.Pair{pair(0, 1)}, both(pair(0, 1), 0, 1, last, -last-api.MaxTime))
	holdOf(t, "the latest client", l, []api.Pair{pair(1, 0)}, both(pair(1, 0), 1, 0, -last, last+api.MaxTime))
}

// wild are numbers that are no places of three; also those of which the lower half would do.
func wild() []int {
	return []int{math.MinInt, math.MinInt + 1, math.MinInt32, -1 << 32, -1<<32 + 1, -3, -2, -1, 3, 4, math.MaxInt32, math.MaxUint32, 1 << 32, 1<<32 + 1, 1 << 62, math.MaxInt - 1, math.MaxInt}
}

func TestOfPairsOfNoPlaces(t *testing.T) {
	l := []api.Span{on("a", api.Client, 5, 15), on("b", api.Server, 8, 4), on("c", api.Server, 6, 1)}
	whole, other := both(pair(0, 1), 0, 1, 3, 8), both(pair(0, 2), 0, 2, 1, 13)
	for _, at := range wild() {
		for place := range l {
			for _, none := range []api.Pair{pair(at, place), pair(place, at), pair(at, at)} {
				holdOf(t, "alone", l, []api.Pair{none})
				holdOf(t, "among others", l, []api.Pair{none, pair(0, 1), none, none, pair(0, 2), none}, whole, other)
			}
		}
	}
	// What lies behind the list in its memory isn't of it.
	holdOf(t, "behind", l[:2], []api.Pair{pair(0, 2), pair(0, 1), pair(2, 1)}, whole)
}

func TestOfSpansThatMayNotBe(t *testing.T) {
	for what, change := range map[string]func(*api.Span){
		"Trace 0":        func(s *api.Span) { s.Trace = 0 },
		"ID 0":           func(s *api.Span) { s.ID = 0 },
		"its own Parent": func(s *api.Span) { s.Parent = s.ID },
		"no kind":        func(s *api.Span) { s.Kind = 3 },
		"no Name":        func(s *api.Span) { s.Name = "" },
		"Start below 0":  func(s *api.Span) { s.Start = -1 },
		"Start too late": func(s *api.Span) { s.Start = api.MaxTime },
		"greatest Start": func(s *api.Span) { s.Start = math.MaxInt64 },
		"Dur below 0":    func(s *api.Span) { s.Dur = -1 },
		"Dur too long":   func(s *api.Span) { s.Dur = api.MaxTime + 1 },
		"least Dur":      func(s *api.Span) { s.Dur = math.MinInt64 },
	} {
		whole := []api.Span{on("a", api.Client, 5, 15), on("b", api.Server, 8, 4), on("c", api.Server, 6, 1), on("d", api.Client, 1, 1)}
		pairs := []api.Pair{pair(0, 1), pair(0, 2), pair(3, 2)}
		first, second, third := both(pairs[0], 0, 1, 3, 8), both(pairs[1], 0, 2, 1, 13), both(pairs[2], 3, 2, 5, -5)
		holdOf(t, "whole", whole, pairs, first, second, third)
		for place, want := range [][][]api.Edge{{third}, {second, third}, {first}, {first, second}} {
			l := slices.Clone(whole)
			change(&l[place])
			holdOf(t, what, l, pairs, want...)
		}
	}
}

func TestHoldsOrdinary(t *testing.T) {
	for _, c := range []struct {
		what             string
		from, weight, to int64
		want             bool
	}{
		{"all 0", 0, 0, 0, true},
		{"just as much", 0, 3, 3, true},
		{"less", 0, 3, 2, true},
		{"one above", 0, 3, 4, false},
		{"far below", 0, 3, -1000, true},
		{"a weight below 0, just as much", 0, -7, -7, true},
		{"a weight below 0, less", 0, -7, -8, true},
		{"a weight below 0, one above", 0, -7, -6, false},
		{"from below 0, just as much", -5, 8, 3, true},
		{"from below 0, one above", -5, 8, 4, false},
		{"all below 0, just as much", -5, -8, -13, true},
		{"all below 0, one above", -5, -8, -12, false},
		{"above 0, just as much", 70, -70, 0, true},
		{"above 0, one above", 69, -70, 0, false},
		{"beyond 32 bits, just as much", 1 << 40, 1 << 32, 1<<40 + 1<<32, true},
		{"beyond 32 bits, one above", 1 << 40, 1 << 32, 1<<40 + 1<<32 + 1, false},
		{"beyond 53 bits, just as much", 1 << 60, 1, 1<<60 + 1, true},
		{"beyond 53 bits, one above", 1 << 60, 1, 1<<60 + 2, false},
	} {
		holdHolds(t, c.what, edge(0, 1, c.weight), []int64{c.from, c.to}, c.want)
		holdHolds(t, c.what+", round", edge(1, 0, c.weight), []int64{c.to, c.from}, c.want)
		holdHolds(t, c.what+", among others", edge(3, 1, c.weight), []int64{math.MinInt64, c.to, math.MaxInt64, c.from, 0}, c.want)
	}
}

// TestHoldsOfOneHost holds that an edge from a host to itself hangs on its weight alone.
func TestHoldsOfOneHost(t *testing.T) {
	for _, offset := range extremes() {
		for _, weight := range extremes() {
			holdHolds(t, "one host", edge(1, 1, weight), []int64{0, offset}, weight >= 0)
		}
	}
}

// TestHoldsTheFieldsThatTell holds that neither the pair nor whose end it is counts.
func TestHoldsTheFieldsThatTell(t *testing.T) {
	for _, p := range []api.Pair{{}, pair(0, 1), pair(-1, 99), pair(math.MinInt, math.MaxInt)} {
		for _, end := range []bool{false, true} {
			e := api.Edge{From: 0, To: 1, Weight: -7, Pair: p, End: end}
			holdHolds(t, "any pair", e, []int64{0, -7}, true)
			holdHolds(t, "any pair", e, []int64{0, -6}, false)
		}
	}
}

// extremes are numbers about the ends of 64 bits, of 32 bits, and about 0.
func extremes() []int64 {
	var out []int64
	for _, n := range []int64{math.MinInt64 + 3, -1 << 62, -1 << 52, -1 << 32, 0, 1 << 32, 1 << 52, 1 << 62, math.MaxInt64 - 3} {
		for by := int64(-3); by <= 3; by++ {
			out = append(out, n+by)
		}
	}
	return out
}

// toldHolds is whether an edge holds, told plainly by numbers of any size.
func toldHolds(from, weight, to int64) bool {
	sum := new(big.Int).Add(big.NewInt(from), big.NewInt(weight))
	return big.NewInt(to).Cmp(sum) <= 0
}

// TestHoldsBeyond64Bits holds sums that fit and that don't, below and above, against numbers of any size.
func TestHoldsBeyond64Bits(t *testing.T) {
	for _, from := range extremes() {
		for _, weight := range extremes() {
			for _, to := range extremes() {
				holdHolds(t, "extremes", edge(0, 1, weight), []int64{from, to}, toldHolds(from, weight, to))
			}
		}
	}
}

func TestHoldsAtTheEndsOf64Bits(t *testing.T) {
	const high, low = math.MaxInt64, math.MinInt64
	for _, c := range []struct {
		what             string
		from, weight, to int64
		want             bool
	}{
		{"one beyond is above the greatest", high, 1, high, true},
		{"far beyond is above the greatest", high, high, high, true},
		{"just the greatest", high - 1, 1, high, true},
		{"one short of the greatest", high - 2, 1, high, false},
		{"one beyond is below the least", low, -1, low, false},
		{"far beyond is below the least", low, low, low, false},
		{"just the least", low + 1, -1, low, true},
		{"one above the least", low + 2, -1, low, true},
		{"the least of all that fit", low + 1, -1, low + 1, false},
		{"the ends together, just as much", high, low, -1, true},
		{"the ends together, one above", high, low, 0, false},
		{"the ends the other way, just as much", low, high, -1, true},
		{"the ends the other way, one above", low, high, 0, false},
		{"twice the least isn't 0", low, low, 0, false},
		{"twice the greatest isn't -2", high, high, 0, true},
	} {
		holdHolds(t, c.what, edge(0, 1, c.weight), []int64{c.from, c.to}, c.want)
	}
}

func TestHoldsOfNoPlaces(t *testing.T) {
	offsets := []int64{0, 0, 0}
	for _, at := range wild() {
		for place := range offsets {
			holdHolds(t, "From", edge(at, place, math.MaxInt64), offsets, false)
			holdHolds(t, "To", edge(place, at, math.MaxInt64), offsets, false)
			holdHolds(t, "in range", edge(place, place, 0), offsets, true)
		}
		holdHolds(t, "both", edge(at, at, math.MaxInt64), offsets, false)
		for _, none := range [][]int64{nil, {}} {
			holdHolds(t, "no offsets", edge(at, at, math.MaxInt64), none, false)
			holdHolds(t, "no offsets", edge(0, 0, math.MaxInt64), none, false)
		}
	}
	// What lies behind the list in its memory isn't of it.
	holdHolds(t, "To behind", edge(0, 1, 5), offsets[:1], false)
	holdHolds(t, "From behind", edge(1, 0, 5), offsets[:1], false)
}

func TestAllOfNone(t *testing.T) {
	for _, edges := range [][]api.Edge{nil, {}} {
		for _, offsets := range [][]int64{nil, {}, {0}, {math.MaxInt64, math.MinInt64}} {
			holdAll(t, "no edges", edges, offsets, true)
		}
	}
}

// TestAllByEachEdge holds that one edge that doesn't hold is found, whichever it is.
func TestAllByEachEdge(t *testing.T) {
	offsets := []int64{0, -7, -9}
	whole := []api.Edge{edge(0, 1, -7), edge(1, 2, -2), edge(2, 0, 9), edge(0, 2, -9), edge(1, 1, 0)}
	holdAll(t, "all hold", whole, offsets, true)
	for place := range whole {
		for _, other := range []api.Edge{edge(0, 1, -8), edge(2, 0, 8), edge(1, 1, -1), edge(-1, 0, 99), edge(3, 0, 99), edge(0, -1, 99), edge(0, 3, 99)} {
			edges := slices.Clone(whole)
			edges[place] = other
			holdAll(t, "all but one hold", edges, offsets, false)
		}
	}
	holdAll(t, "none holds", []api.Edge{edge(0, 1, -8), edge(2, 0, 8)}, offsets, false)
	holdAll(t, "one several times", []api.Edge{whole[0], whole[0], whole[0]}, offsets, true)
	holdAll(t, "more offsets than hosts", whole, append(slices.Clone(offsets), math.MinInt64, math.MaxInt64), true)
	holdAll(t, "fewer offsets than hosts", whole, offsets[:2], false)
}

// put is a time put later by an offset, as a number of any size.
func put(time, offset int64) *big.Int {
	return new(big.Int).Add(big.NewInt(time), big.NewInt(offset))
}

// holdMeaning holds P14.2 of a pair of two spans: each of its edges, and both together.
func holdMeaning(t *testing.T, l []api.Span, p api.Pair, offsets []int64) (within bool) {
	t.Helper()
	edges := Of(l, []api.Pair{p})
	if len(edges) != 2 || edges[0].End || !edges[1].End || edges[0].Pair != p || edges[1].Pair != p {
		t.Fatalf("%v, %v: edges %v", l, p, edges)
	}
	client, server := l[p.Client], l[p.Server]
	names := dedupe.Hosts(l)
	ofClient, ofServer := offsets[dedupe.Place(names, client.Host)], offsets[dedupe.Place(names, server.Host)]
	start := put(client.Start, ofClient).Cmp(put(server.Start, ofServer)) <= 0
	end := put(server.Start+server.Dur, ofServer).Cmp(put(client.Start+client.Dur, ofClient)) <= 0
	holdHolds(t, "the start", edges[0], offsets, start)
	holdHolds(t, "the end", edges[1], offsets, end)
	holdAll(t, "both ends", edges, offsets, start && end)
	return start && end
}

// TestMeaningAllShort holds P14.2 of all short pairs of two hosts, either host the lesser, with offsets of -3 to 3.
func TestMeaningAllShort(t *testing.T) {
	within, without := 0, 0
	for pick := range 4 * 4 * 4 * 4 * 7 * 7 {
		times, offsets := pick/49, []int64{int64(pick%7) - 3, int64(pick/7%7) - 3}
		l := []api.Span{
			on("a", api.Client, int64(times%4), int64(times/4%4)),
			on("b", api.Server, int64(times/16%4), int64(times/64%4)),
		}
		swapped := slices.Clone(l)
		swapped[0].Host, swapped[1].Host = "b", "a"
		alike := slices.Clone(l)
		alike[1].Host = "a"
		for _, spans := range [][]api.Span{l, swapped, alike} {
			if holdMeaning(t, spans, pair(0, 1), offsets) {
				within++
			} else {
				without++
			}
		}
	}
	if within == 0 || without == 0 {
		t.Errorf("%d of the short pairs are within, %d aren't", within, without)
	}
}

// drawn are so many spans on some hosts, each with a parent that stands ahead of it.
func drawn(r *rand.Rand, size int) []api.Span {
	names := []string{"a", "b", "c-1", "c", "d"}
	l := make([]api.Span, size)
	for i := range l {
		l[i] = on(names[r.Intn(len(names))], uint8(1+r.Intn(2)), r.Int63n(1<<r.Intn(51)), r.Int63n(1<<r.Intn(51)+1))
		l[i].ID, l[i].Parent = uint64(i)+1, uint64(r.Intn(i+1))
		if r.Intn(12) == 0 {
			l[i].Start = -1 - r.Int63n(3)
		}
	}
	return l
}

// offsetsDrawn are offsets of so many hosts, small, great, or about the ends of 64 bits.
func offsetsDrawn(r *rand.Rand, size int) []int64 {
	ends := extremes()
	offsets := make([]int64, size)
	for i := range offsets {
		switch r.Intn(3) {
		case 0:
			offsets[i] = r.Int63n(9) - 4
		case 1:
			offsets[i] = r.Int63n(1<<52) - 1<<51
		default:
			offsets[i] = ends[r.Intn(len(ends))]
		}
	}
	return offsets
}

// toldOf is what Of has to answer, told plainly by the layers below.
func toldOf(l []api.Span, pairs []api.Pair) []api.Edge {
	var out []api.Edge
	names := dedupe.Hosts(l)
	for _, p := range pairs {
		if lead, rest, ok := rpc.Gaps(l, p); ok {
			client, server := dedupe.Place(names, l[p.Client].Host), dedupe.Place(names, l[p.Server].Host)
			out = append(out, both(p, client, server, lead, rest)...)
		}
	}
	return out
}

func TestDrawn(t *testing.T) {
	r := rand.New(rand.NewSource(14))
	within, without := 0, 0
	for range 3000 {
		l := drawn(r, r.Intn(30))
		pairs := rpc.Of(l, parent.Of(l))
		offsets := offsetsDrawn(r, len(hosts.Groups(l)))
		all := true
		for _, p := range pairs {
			if holdMeaning(t, l, p, offsets) {
				within++
			} else {
				without++
				all = false
			}
		}
		edges := Of(l, pairs)
		holdOf(t, "drawn", l, pairs, toldOf(l, pairs))
		holdAll(t, "drawn", edges, offsets, all)
		for range 5 { // those that Gaps tells false of, too
			pairs = append(pairs, pair(r.Intn(len(l)+2)-1, r.Intn(len(l)+2)-1))
		}
		r.Shuffle(len(pairs), func(i, k int) { pairs[i], pairs[k] = pairs[k], pairs[i] })
		holdOf(t, "drawn, with others", l, pairs, toldOf(l, pairs))
	}
	if within == 0 || without == 0 {
		t.Errorf("%d of the pairs drawn are within, %d aren't", within, without)
	}
}

func TestMoreThanAnyLimit(t *testing.T) {
	const most = 3000
	l, pairs, want := make([]api.Span, 2*most), make([]api.Pair, most), []api.Edge(nil)
	for i := range most {
		host := string([]byte{'a' + byte(i/676), 'a' + byte(i/26%26), 'a' + byte(i%26)})
		l[2*i], l[2*i+1] = on(host, api.Client, 5, 15), on(host+"b", api.Server, int64(i), 4)
		pairs[i] = pair(2*i, 2*i+1)
		want = append(want, both(pairs[i], 2*i, 2*i+1, int64(i)-5, 16-int64(i))...)
	}
	holdOf(t, "many hosts", l, pairs, want)
	offsets := make([]int64, 2*most)
	for i := range most {
		offsets[2*i+1] = 5 - int64(i)
	}
	holdAll(t, "many hosts", want, offsets, true)
	offsets[2*most-1]--
	holdAll(t, "many hosts, the last one too soon", want, offsets, false)
}

func TestArgumentsStayAsTheyAre(t *testing.T) {
	l := []api.Span{on("b", api.Client, 5, 15), on("a", api.Server, 8, 4), on("c", api.Server, 6, 1)}
	pairs, offsets := []api.Pair{pair(0, 1), pair(0, 9), pair(0, 2)}, []int64{0, 3, -1, 4}
	want := both(pair(0, 1), 1, 0, 3, 8)
	keptSpans, keptPairs, keptOffsets := slices.Clone(l), slices.Clone(pairs), slices.Clone(offsets)
	edges := Of(l[:2], pairs[:2])
	holdAll(t, "handed in", edges, offsets[:2], true)
	if !slices.Equal(l, keptSpans) || !slices.Equal(pairs, keptPairs) || !slices.Equal(offsets, keptOffsets) || !slices.Equal(edges, want) {
		t.Error("what was handed in has changed")
	}
	clear(l)
	clear(pairs)
	clear(offsets)
	if !slices.Equal(edges, want) {
		t.Error("writing into what was handed in changes the answer")
	}
	clear(edges)
	holdOf(t, "written into", keptSpans[:2], keptPairs[:2], want)
	holdOf(t, "behind the pairs", keptSpans, keptPairs[:1], want)
}
