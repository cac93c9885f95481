package cert

import (
	"math"
	"math/big"
	"math/rand"
	"slices"
	"testing"

	"merkhet/api"
	"merkhet/bound"
	"merkhet/loop"
	"merkhet/relax"
)

// most is how far from 0 a weight may be.
const most = 1 << 52

// edge is one of the start of no pair.
func edge(from, to int, weight int64) api.Edge {
	return api.Edge{From: from, To: to, Weight: weight}
}

// list are edges.
func list(edges ...api.Edge) []api.Edge { return edges }

// row are offsets.
func row(offsets ...int64) []int64 { return offsets }

// holdOffsets tells where offsets are taken, or not, other than it is wanted.
func holdOffsets(t *testing.T, what string, n int, edges []api.Edge, offsets []int64, want bool) {
	t.Helper()
	if got := Offsets(n, edges, offsets); got != want {
		t.Errorf("%s, %d, %v: offsets %v taken: %v, want %v", what, n, edges, offsets, got, want)
	}
}

// holdChain tells where a chain is taken, or not, other than it is wanted.
func holdChain(t *testing.T, what string, n int, edges, chain []api.Edge, want bool) {
	t.Helper()
	if got := Chain(n, edges, chain); got != want {
		t.Errorf("%s, %d, %v: chain %v taken: %v, want %v", what, n, edges, chain, got, want)
	}
}

// round are edges from each host to the next one, and from the last one to the first one, whose weights are 0 but one.
func round(n, at int, weight int64) []api.Edge {
	edges := make([]api.Edge, n)
	for host := range edges {
		edges[host] = edge(host, (host+1)%n, 0)
	}
	edges[at].Weight = weight
	return edges
}

// turned is a chain that begins with another one of its edges.
func turned(chain []api.Edge, first int) []api.Edge {
	return slices.Concat(chain[first:], chain[:first])
}

// wild are numbers that are no hosts of any; also those of which the lower half would do.
func wild() []int {
	return []int{math.MinInt, math.MinInt + 1, math.MinInt32, -1 << 32, -1<<32 + 1, -32, -2, -1, 32, 33, math.MaxInt32, math.MaxUint32, 1 << 32, 1<<32 + 1, 1 << 62, math.MaxInt - 1, math.MaxInt}
}

// tooFar are weights that are too far from 0.
func tooFar() []int64 {
	return []int64{math.MinInt64, math.MinInt64 + 1, -1 << 62, -1 << 53, -most - 1, most + 1, 1 << 53, 1 << 62, math.MaxInt64 - 1, math.MaxInt64}
}

func TestExample(t *testing.T) {
	edges := list(edge(0, 1, -7))
	holdOffsets(t, "example", 2, edges, row(0, -7), true)
	holdOffsets(t, "example", 2, edges, row(0, -8), false)
}

func TestOffsetsOrdinary(t *testing.T) {
	for _, c := range []struct {
		what    string
		n       int
		edges   []api.Edge
		offsets []int64
		want    bool
	}{
		{"no hosts", 0, nil, nil, true},
		{"no hosts", 0, list(), row(), true},
		{"no edges", 3, nil, row(0, 0, 0), true},
		{"no edges, one below 0", 3, nil, row(0, -1, 0), false},
		{"no edges, one above 0", 3, nil, row(0, 0, 1), false},
		{"an edge above 0", 2, list(edge(0, 1, 7)), row(0, 0), true},
		{"an edge above 0, its To below 0", 2, list(edge(0, 1, 7)), row(0, -1), false},
		{"it holds, but none is held by it", 2, list(edge(0, 1, -7)), row(0, -9), false},
		{"it doesn't hold", 2, list(edge(0, 1, -7)), row(0, -6), false},
		{"the other way round", 2, list(edge(0, 1, -7)), row(-7, 0), false},
		{"To the first one", 2, list(edge(1, 0, -7)), row(-7, 0), true},
		{"both put down by 1", 2, list(edge(0, 1, -7)), row(-1, -8), false},
		{"both put up by 1", 2, list(edge(0, 1, -7)), row(1, -6), false},
		{"the lesser of two that go alike", 2, list(edge(0, 1, -7), edge(0, 1, -8)), row(0, -8), true},
		{"the greater of two that go alike", 2, list(edge(0, 1, -7), edge(0, 1, -8)), row(0, -7), false},
		{"round, just met", 2, list(edge(0, 1, -7), edge(1, 0, 7)), row(0, -7), true},
		{"round, just met, both put down by 1", 2, list(edge(0, 1, -7), edge(1, 0, 7)), row(-1, -8), false},
		{"round, with room", 2, list(edge(0, 1, -7), edge(1, 0, 9)), row(0, -7), true},
		{"round, with room, at the other end of it", 2, list(edge(0, 1, -7), edge(1, 0, 9)), row(0, -9), false},
		{"round, below 0", 2, list(edge(0, 1, -7), edge(1, 0, 6)), row(0, -7), false},
		{"two ways to one, the longer one is less", 3, list(edge(0, 1, -2), edge(1, 2, -3), edge(0, 2, -4)), row(0, -2, -5), true},
		{"two ways to one, the shorter one is less", 3, list(edge(0, 1, -2), edge(1, 2, -3), edge(0, 2, -6)), row(0, -2, -6), true},
		{"held by one with an edge above 0", 3, list(edge(0, 1, -9), edge(1, 2, 4)), row(0, -9, -5), true},
		{"held by one that holds none else", 3, list(edge(0, 1, -9), edge(1, 2, 9)), row(0, -9, 0), true},
		{"held by one that isn't the first", 3, list(edge(2, 1, -4), edge(0, 1, -3)), row(0, -4, 0), true},
		{"two apart, each held by one of its own", 4, list(edge(0, 1, -2), edge(3, 2, -3)), row(0, -2, -3, 0), true},
		{"two apart, one of both not held", 4, list(edge(0, 1, -2), edge(3, 2, -3)), row(0, -2, -4, -1), false},
		{"from a host to itself, 0", 1, list(edge(0, 0, 0)), row(0), true},
		{"from a host to itself, below 0", 1, list(edge(0, 0, -1)), row(0), false},
		{"from a host to itself, below 0, and so is the host", 1, list(edge(0, 0, -1)), row(-1), false},
		{"from a host to itself, above 0", 1, list(edge(0, 0, 1)), row(0), true},
	} {
		holdOffsets(t, c.what, c.n, c.edges, c.offsets, c.want)
	}
}

func TestOffsetsOfEdgesThatMayNotBe(t *testing.T) {
	for n := range api.MaxHosts + 1 {
		holdOffsets(t, "hosts in range", n, nil, make([]int64, n), true)
	}
	for _, n := range append(wild(), 34, 64) {
		want := n == api.MaxHosts
		holdOffsets(t, "hosts out of range", n, nil, make([]int64, min(max(n, 0), 64)), want)
		holdOffsets(t, "hosts out of range, from a host to itself", n, list(edge(0, 0, 0)), make([]int64, min(max(n, 0), 64)), want)
		holdOffsets(t, "hosts out of range, no offsets", n, nil, nil, false)
	}
	for _, n := range []int{2, 3, 31, 32} {
		offsets := make([]int64, n)
		offsets[1] = -7
		for _, none := range append(wild(), n, n+1) {
			holdOffsets(t, "From", n, list(edge(0, 1, -7), edge(none, 0, most)), offsets, false)
			holdOffsets(t, "To", n, list(edge(0, none, most), edge(0, 1, -7)), offsets, false)
			holdOffsets(t, "both", n, list(edge(none, none, 0), edge(0, 1, -7)), offsets, false)
		}
	}
	for _, weight := range tooFar() {
		holdOffsets(t, "too far from 0", 2, list(edge(0, 1, weight)), row(0, min(weight, 0)), false)
		holdOffsets(t, "too far from 0, from a host to itself", 2, list(edge(0, 1, -7), edge(1, 1, weight)), row(0, -7), false)
	}
	holdOffsets(t, "just not too far from 0", 2, list(edge(0, 1, -most), edge(1, 0, most), edge(0, 0, most)), row(0, -most), true)
}

func TestOffsetsMoreOrFewer(t *testing.T) {
	whole := row(0, -2, -5, 0, 0)
	edges := list(edge(0, 1, -2), edge(1, 2, -3))
	for n := range whole {
		for size := range len(whole) + 1 {
			holdOffsets(t, "no edges", n, nil, make([]int64, size), size == n)
			holdOffsets(t, "edges of the first three", n, edges, whole[:size], n >= 3 && size == n)
		}
	}
	holdOffsets(t, "more than 32", 32, nil, make([]int64, 33), false)
	// What lies behind the list in its memory isn't of it.
	holdOffsets(t, "one behind", 3, edges, whole[:2], false)
}

// TestOffsetsOutOfRange holds that offsets above 0 aren't taken, even if all else is as it has to be, and none too far below 0.
func TestOffsetsOutOfRange(t *testing.T) {
	for _, above := range []int64{1, 2, 1 << 32, most - 1} {
		edges := list(edge(0, 1, above))
		holdOffsets(t, "held, but above 0", 2, edges, row(0, above), false)
		holdOffsets(t, "not above 0", 2, edges, row(0, 0), true)
		holdOffsets(t, "below one that is above 0", 3, append(edges, edge(1, 2, -above)), row(0, above, 0), false)
		holdOffsets(t, "held by one above 0", 3, append(edges, edge(1, 2, -above-1)), row(0, above, -1), false)
		holdOffsets(t, "below one that isn't above 0", 3, append(edges, edge(1, 2, -above-1)), row(0, 0, -above-1), true)
	}
	const least = -1 << 58
	far := []int64{math.MinInt64, math.MinInt64 + 1, math.MinInt64 + most, -1 << 62, least - 1, least, least + 1, 1, 1 << 58, math.MaxInt64 - most, math.MaxInt64 - 1, math.MaxInt64}
	for _, offset := range far {
		holdOffsets(t, "alone", 1, nil, row(offset), false)
		holdOffsets(t, "alone, from a host to itself", 1, list(edge(0, 0, 0)), row(offset), false)
		for _, weight := range []int64{-most, -7, -1, 0, 1, 7, most} {
			holdOffsets(t, "From", 2, list(edge(0, 1, weight)), row(offset, offset+weight), false)
			holdOffsets(t, "To", 2, list(edge(1, 0, weight)), row(offset, offset-weight), false)
			holdOffsets(t, "round", 2, list(edge(0, 1, weight), edge(1, 0, -weight)), row(offset, offset+weight), false)
			holdOffsets(t, "beside 0", 2, list(edge(0, 1, weight)), row(0, offset), false)
			holdOffsets(t, "beside 0, round", 2, list(edge(0, 1, weight), edge(1, 0, -weight)), row(offset, 0), false)
		}
	}
}

// TestHeldByOneThatIsHeld holds that hosts that aren't held don't hold one another, nor does an edge that leaves room.
func TestHeldByOneThatIsHeld(t *testing.T) {
	for n := 1; n <= api.MaxHosts; n++ {
		down := slices.Repeat([]int64{-1}, n)
		holdOffsets(t, "round of 0", n, round(n, 0, 0), down, false)
		holdOffsets(t, "round of 0, all 0", n, round(n, 0, 0), make([]int64, n), true)
		for host := range n {
			holdOffsets(t, "each by itself", n, append(round(n, 0, 0), edge(host, host, 0)), down, false)
		}
		if n == 1 {
			continue
		}
		edges := round(n, n-1, -1)
		edges[n-2].Weight = 1
		holdOffsets(t, "round of 0 together, none at 0", n, edges, append(slices.Repeat([]int64{-2}, n-1), -1), false)
		down[n-1] = 0 // the last host holds the first one, that one the next one, and so on
		holdOffsets(t, "round of 0 together, one at 0", n, edges, down, true)
	}
	both := list(edge(1, 2, -3), edge(2, 1, 3))
	holdOffsets(t, "with room", 3, append(both, edge(0, 1, -4)), row(0, -5, -8), false)
	holdOffsets(t, "without room", 3, append(both, edge(0, 1, -5)), row(0, -5, -8), true)
	holdOffsets(t, "without room, the other one", 3, append(both, edge(0, 2, -8)), row(0, -5, -8), true)
	holdOffsets(t, "the edge goes the other way", 3, append(both, edge(1, 0, 5)), row(0, -5, -8), false)
	holdOffsets(t, "one that isn't held below one that is", 3, list(edge(0, 1, -2), edge(2, 1, 1)), row(0, -2, -3), false)
	holdOffsets(t, "the last but one isn't held", 3, list(edge(0, 1, -2), edge(1, 2, -2)), row(0, -3, -5), false)
}

// TestHeldOneByOne holds ways on which each host is held by the one ahead, in whatever order the edges stand, and that none is if one edge is away.
func TestHeldOneByOne(t *testing.T) {
	r := rand.New(rand.NewSource(1700))
	for n := 2; n <= api.MaxHosts; n++ {
		for turn := range 6 {
			names := r.Perm(n)
			edges, offsets := []api.Edge(nil), make([]int64, n)
			for at := range n - 1 {
				from, to, weight := names[at], names[at+1], -1-r.Int63n(1<<r.Intn(52))
				edges = append(edges, edge(from, to, weight), edge(to, from, -weight), edge(from, to, weight+1))
				offsets[to] = offsets[from] + weight
			}
			switch turn {
			case 0:
			case 1:
				slices.Reverse(edges) // each time gone through holds one host more
			default:
				r.Shuffle(len(edges), func(i, j int) { edges[i], edges[j] = edges[j], edges[i] })
			}
			holdOffsets(t, "one by one", n, edges, offsets, true)
			for host := range offsets {
				for _, by := range []int64{-1, 1} {
					other := slices.Clone(offsets)
					other[host] += by
					holdOffsets(t, "one by one, but one", n, edges, other, false)
				}
			}
			at := r.Intn(n - 1)
			away := slices.DeleteFunc(slices.Clone(edges), func(e api.Edge) bool {
				return e == edge(names[at], names[at+1], offsets[names[at+1]]-offsets[names[at]])
			})
			holdOffsets(t, "one edge away", n, away, offsets, false)
		}
	}
}

func TestFarthestOffsets(t *testing.T) {
	const n = api.MaxHosts
	for _, weight := range []int64{-most, 1 - most, -most / 2} {
		edges, offsets := []api.Edge(nil), make([]int64, n)
		for host := range n - 1 {
			edges = append(edges, edge(host, host+1, weight))
			offsets[host+1] = offsets[host] + weight
		}
		holdOffsets(t, "rising hosts", n, edges, offsets, true)
		slices.Reverse(edges)
		holdOffsets(t, "rising hosts, the last edge first", n, edges, offsets, true)
		for host := range n {
			for _, by := range []int64{-1, 1} {
				other := slices.Clone(offsets)
				other[host] += by
				holdOffsets(t, "rising hosts, but one", n, edges, other, false)
			}
		}
		holdOffsets(t, "rising hosts, and back", n, append(edges, edge(n-1, 0, most)), offsets, false)
	}
}

func TestChainOrdinary(t *testing.T) {
	edges := list(edge(0, 1, -2), edge(1, 2, -3), edge(0, 2, -4), edge(2, 1, 5), edge(2, 0, 4), edge(1, 1, -1), edge(2, 0, 5), edge(2, 2, 0), edge(1, 0, 1))
	for _, c := range []struct {
		what  string
		chain []api.Edge
		want  bool
	}{
		{"from a host to itself", list(edges[5]), true},
		{"from a host to itself, 0", list(edges[7]), false},
		{"two", list(edges[0], edges[8]), true},
		{"two, the other one first", list(edges[8], edges[0]), true},
		{"two, just 0", list(edges[2], edges[4]), false},
		{"two, above 0", list(edges[1], edges[3]), false},
		{"three", list(edges[0], edges[1], edges[4]), true},
		{"three, the second one first", list(edges[1], edges[4], edges[0]), true},
		{"three, the last one first", list(edges[4], edges[0], edges[1]), true},
		{"three, in a wrong order", list(edges[0], edges[4], edges[1]), false},
		{"three, back over them", list(edges[4], edges[1], edges[0]), false},
		{"three, just 0", list(edges[0], edges[1], edges[6]), false},
		{"three, the other way round, above 0", list(edges[2], edges[3], edges[8]), false},
		{"none", nil, false},
		{"none", list(), false},
		{"one that doesn't come back", list(edges[0]), false},
		{"two that don't come back", list(edges[0], edges[1]), false},
		{"two that come back elsewhere", list(edges[0], edges[1], edges[3]), false},
		{"a gap", list(edges[0], edges[4]), false},
		{"a gap between two of three", list(edges[0], edges[4], edges[0], edges[8]), false},
		{"two that begin and end alike", list(edges[2], edges[2]), false},
		{"twice over one", list(edges[5], edges[5]), false},
		{"twice over two", list(edges[0], edges[8], edges[0], edges[8]), false},
		{"twice over three", list(edges[0], edges[1], edges[4], edges[0], edges[1], edges[4]), false},
		{"through one host twice", list(edges[5], edges[1], edges[4], edges[0]), false},
		{"through one host twice, not the first one", list(edges[0], edges[5], edges[1], edges[4]), false},
		{"through one host twice, the last one", list(edges[1], edges[4], edges[0], edges[5]), false},
		{"two rounds at one host", list(edges[0], edges[8], edges[2], edges[4]), false},
		{"two rounds beside one another", list(edges[5], edges[7]), false},
	} {
		holdChain(t, c.what, 3, edges, c.chain, c.want)
		holdChain(t, c.what+", more hosts", 32, edges, c.chain, c.want)
		holdChain(t, c.what+", fewer hosts", 2, edges, c.chain, false)
	}
}

func TestChainOfEdgesThatMayNotBe(t *testing.T) {
	chain := list(edge(0, 1, -7), edge(1, 0, 6))
	for n := range api.MaxHosts + 1 {
		holdChain(t, "hosts in range", n, chain, chain, n >= 2)
		holdChain(t, "hosts in range, no edges", n, nil, chain, false)
		holdChain(t, "hosts in range, none at all", n, nil, nil, false)
		holdChain(t, "hosts in range, an empty one", n, chain, list(), false)
	}
	for _, n := range wild() {
		want := n == api.MaxHosts
		holdChain(t, "hosts out of range", n, chain, chain, want)
		holdChain(t, "hosts out of range, from a host to itself", n, list(edge(0, 0, -1)), list(edge(0, 0, -1)), want)
		holdChain(t, "hosts out of range, no edges", n, nil, chain, false)
		holdChain(t, "hosts out of range, none at all", n, nil, nil, false)
	}
	for _, n := range []int{2, 3, 31, 32} {
		for _, none := range append(wild(), n, n+1) {
			for _, other := range list(edge(none, 0, 0), edge(0, none, 0), edge(none, none, -1), edge(none, none, 0)) {
				holdChain(t, "another edge", n, append(chain[:2:2], other), chain, false)
				holdChain(t, "another edge first", n, append(list(other), chain...), chain, false)
				holdChain(t, "that edge alone", n, append(chain[:2:2], other), list(other), false)
				holdChain(t, "that edge alone, not among them", n, chain, list(other), false)
				holdChain(t, "that edge ahead, not among them", n, chain, append(list(other), chain...), false)
				holdChain(t, "that edge behind, not among them", n, chain, append(chain[:2:2], other), false)
			}
			through := list(edge(0, none, -1), edge(none, 0, -1))
			holdChain(t, "through no host", n, append(chain[:2:2], through...), through, false)
			holdChain(t, "through no host, not among them", n, chain, through, false)
		}
	}
	for _, weight := range tooFar() {
		far := edge(1, 0, weight)
		holdChain(t, "another edge too far from 0", 2, append(chain[:2:2], far), chain, false)
		holdChain(t, "too far from 0", 2, append(chain[:2:2], far), list(chain[0], far), false)
		holdChain(t, "too far from 0, not among them", 2, chain, list(chain[0], far), false)
		holdChain(t, "too far from 0, alone", 2, list(edge(1, 1, weight)), list(edge(1, 1, weight)), false)
	}
	holdChain(t, "just not too far from 0", 2, list(edge(0, 1, -most), edge(1, 0, most-1), edge(0, 0, most)), list(edge(0, 1, -most), edge(1, 0, most-1)), true)
}

// TestChainAmongEdges holds that an edge which differs from one among them, in whatever it has, isn't among them.
func TestChainAmongEdges(t *testing.T) {
	whole := list(edge(0, 1, -7), edge(1, 2, 2), edge(2, 0, 4))
	for place := range whole {
		whole[place].Pair, whole[place].End = api.Pair{Client: place, Server: place + 1}, place == 1
	}
	holdChain(t, "whole", 3, whole, whole, true)
	changes := map[string]func(*api.Edge){
		"Weight, less":  func(e *api.Edge) { e.Weight-- },
		"Weight, more":  func(e *api.Edge) { e.Weight++ },
		"Weight, far":   func(e *api.Edge) { e.Weight = math.MinInt64 },
		"its Client":    func(e *api.Edge) { e.Pair.Client++ },
		"its Server":    func(e *api.Edge) { e.Pair.Server = -1 },
		"End":           func(e *api.Edge) { e.End = !e.End },
		"From and more": func(e *api.Edge) { e.From = (e.From + 1) % 3 },
		"To and more":   func(e *api.Edge) { e.To = (e.To + 1) % 3 },
	}
	for what, change := range changes {
		for place := range whole {
			other := slices.Clone(whole)
			change(&other[place])
			holdChain(t, what, 3, whole, other, false)
			holdChain(t, what+", among the edges", 3, other, whole, false)
			if other[place].From == whole[place].From && other[place].To == whole[place].To && other[place].Weight > math.MinInt64 {
				// There are both of them, behind or ahead of one another.
				holdChain(t, what+", both are there", 3, slices.Concat(whole, other), other, what != "Weight, more")
				holdChain(t, what+", both are there", 3, slices.Concat(other, whole), whole, true)
			}
		}
	}
	for away := range whole {
		holdChain(t, "one of them away", 3, slices.Delete(slices.Clone(whole), away, away+1), whole, false)
	}
	// An edge is among them, however often.
	holdChain(t, "each twice", 3, slices.Repeat(whole, 2), whole, true)
	// What lies behind the lists in their memory isn't of them.
	holdChain(t, "edges behind", 3, whole[:2], whole, false)
	holdChain(t, "chain behind", 3, whole, whole[:2], false)
}

// TestChainRounds holds rounds of as many hosts as there are, wherever they begin and however the edges stand.
func TestChainRounds(t *testing.T) {
	r := rand.New(rand.NewSource(1701))
	for n := 1; n <= api.MaxHosts; n++ {
		for at := range n {
			for _, weight := range []int64{-most, -1, 0, 1, most} {
				chain := round(n, at, weight)
				edges := slices.Clone(chain)
				r.Shuffle(n, func(i, j int) { edges[i], edges[j] = edges[j], edges[i] })
				begin := turned(chain, r.Intn(n))
				holdChain(t, "round", n, edges, begin, weight < 0)
				holdChain(t, "round, one too few", n, edges, begin[:n-1], false)
				holdChain(t, "round, one too many", n, edges, append(begin, begin[0]), false)
				holdChain(t, "round, twice", n, edges, slices.Repeat(begin, 2), false)
				if n > 2 {
					slices.Reverse(begin)
					holdChain(t, "round, back over it", n, edges, begin, false)
				}
			}
		}
	}
	one := list(edge(0, 0, -1))
	holdChain(t, "more edges than a number of 16 bits has places", 1, one, slices.Repeat(one, 1<<16+1), false)
}

func TestChainFarthestWeights(t *testing.T) {
	const n = api.MaxHosts
	farthest := make([]api.Edge, n)
	for host := range farthest {
		farthest[host] = edge(host, (host+1)%n, -most)
	}
	holdChain(t, "all the farthest below 0", n, farthest, farthest, true)
	mixed := slices.Clone(farthest)
	for host := 1; host < n; host += 2 {
		mixed[host].Weight = most
	}
	holdChain(t, "the farthest below 0 and above, just 0", n, mixed, mixed, false)
	for at := 1; at < n; at += 2 {
		by := slices.Clone(mixed)
		by[at].Weight--
		holdChain(t, "the farthest below 0 and above, by 1", n, by, by, true)
		by[at-1].Weight += 2
		holdChain(t, "the farthest below 0 and above, by 1 above 0", n, by, by, false)
	}
	above := slices.Clone(farthest)
	for host := range above {
		above[host].Weight = most
	}
	holdChain(t, "all the farthest above 0", n, above, above, false)
}

// TestFieldsThatTell holds that neither the pair nor whose end it is counts for offsets, and any will do in a chain.
func TestFieldsThatTell(t *testing.T) {
	for _, p := range []api.Pair{{}, {Client: 0, Server: 1}, {Client: -1, Server: 99}, {Client: math.MinInt, Server: math.MaxInt}} {
		for _, end := range []bool{false, true} {
			edges := list(edge(0, 1, -7), edge(1, 0, 7), edge(1, 0, 6))
			for place := range edges {
				edges[place].Pair, edges[place].End = p, end
			}
			holdOffsets(t, "any pair", 2, edges[:2], row(0, -7), true)
			holdOffsets(t, "any pair", 2, edges[:2], row(0, -8), false)
			holdChain(t, "any pair", 2, edges, list(edges[0], edges[2]), true)
			holdChain(t, "any pair", 2, edges, edges[:2], false)
		}
	}
}

// toldOffsets is whether offsets of edges that may be are taken, told plainly, by numbers of any size: each host that isn't at 0 has a way to it from one that is, on which no edge leaves room and none is met twice.
func toldOffsets(n int, edges []api.Edge, offsets []int64) bool {
	if len(offsets) != n || slices.ContainsFunc(offsets, func(o int64) bool { return o > 0 || o < -1<<58 }) {
		return false
	}
	room := make([]int, len(edges)) // -1: it doesn't hold; 0: it leaves none
	for place, e := range edges {
		sum := new(big.Int).Add(big.NewInt(offsets[e.From]), big.NewInt(e.Weight))
		room[place] = sum.Cmp(big.NewInt(offsets[e.To]))
	}
	var held func(host int, over []int) bool
	held = func(host int, over []int) bool {
		if offsets[host] == 0 {
			return true
		}
		over = append(slices.Clone(over), host)
		for place, e := range edges {
			if e.To == host && room[place] == 0 && !slices.Contains(over, e.From) && held(e.From, over) {
				return true
			}
		}
		return false
	}
	for host := range n {
		if !held(host, nil) {
			return false
		}
	}
	return !slices.Contains(room, -1)
}

// toldChain is whether a chain of edges that may be is taken, told plainly, by numbers of any size.
func toldChain(edges, chain []api.Edge) bool {
	sum := new(big.Int)
	for i, e := range chain {
		for _, other := range chain[:i] {
			if other.From == e.From {
				return false
			}
		}
		if i > 0 && chain[i-1].To != e.From || slices.Index(edges, e) < 0 {
			return false
		}
		sum.Add(sum, big.NewInt(e.Weight))
	}
	return len(chain) > 0 && chain[len(chain)-1].To == chain[0].From && sum.Sign() < 0
}

// allLists hands on lists of up to so many of these edges, each as often as one likes.
func allLists(kinds []api.Edge, longest int, each func([]api.Edge)) {
	var edges []api.Edge
	var more func(left int)
	more = func(left int) {
		each(edges)
		for i := range kinds {
			if left > 0 {
				edges = append(edges, kinds[i])
				more(left - 1)
				edges = edges[:len(edges)-1]
			}
		}
	}
	more(longest)
}

// allKinds are the edges of n hosts of weights from -reach to reach.
func allKinds(n int, reach int64) []api.Edge {
	var kinds []api.Edge
	for from := range n {
		for to := range n {
			for weight := -reach; weight <= reach; weight++ {
				kinds = append(kinds, edge(from, to, weight))
			}
		}
	}
	return kinds
}

// allOffsets hands on all offsets of n hosts from -down to up.
func allOffsets(n int, down, up int64, each func([]int64)) {
	offsets := slices.Repeat([]int64{-down}, n)
	for {
		each(offsets)
		at := 0
		for ; at < n && offsets[at] == up; at++ {
			offsets[at] = -down
		}
		if at == n {
			return
		}
		offsets[at]++
	}
}

// TestOffsetsAllShort holds all offsets that come into question, of all short lists of edges, against those that are told plainly, and P17.2: if any are taken, they are Solve's.
func TestOffsetsAllShort(t *testing.T) {
	taken, lists := 0, 0
	for _, c := range []struct {
		n, longest int
		reach      int64
	}{{1, 3, 2}, {2, 3, 1}, {2, 2, 2}, {3, 2, 1}} {
		allLists(allKinds(c.n, c.reach), c.longest, func(edges []api.Edge) {
			lists++
			solved, met := relax.Solve(c.n, edges)
			found := false
			allOffsets(c.n, c.reach*int64(c.n), 1, func(offsets []int64) {
				holdOffsets(t, "all short", c.n, edges, offsets, toldOffsets(c.n, edges, offsets))
				if Offsets(c.n, edges, offsets) {
					found = true
					if !slices.Equal(offsets, solved) {
						t.Errorf("%d, %v: offsets %v are taken, solved are %v", c.n, edges, offsets, solved)
					}
				}
			})
			if found != met {
				t.Errorf("%d, %v: offsets are taken: %v, they can be met: %v", c.n, edges, found, met)
			}
			if found {
				taken++
			}
		})
	}
	if taken < lists/100 || taken == lists {
		t.Errorf("offsets of %d of %d lists are taken", taken, lists)
	}
}

// TestJustOneAllShort holds P17.2 of all short lists of edges: some chain of those that there are is taken just if Solve's offsets aren't.
func TestJustOneAllShort(t *testing.T) {
	chains, lists := 0, 0
	for _, c := range []struct {
		n, longest int
		reach      int64
	}{{1, 3, 2}, {2, 3, 1}, {2, 2, 2}, {3, 3, 1}} {
		allLists(allKinds(c.n, c.reach), c.longest, func(edges []api.Edge) {
			lists++
			found := false
			edges = slices.Clone(edges)
			allLists(edges, c.n, func(chain []api.Edge) {
				if got := Chain(c.n, edges, chain); got != toldChain(edges, chain) {
					t.Errorf("all short, %d, %v: chain %v taken: %v", c.n, edges, chain, got)
				} else if got {
					found = true
				}
			})
			solved, _ := relax.Solve(c.n, edges)
			if offsets := Offsets(c.n, edges, solved); offsets == found {
				t.Errorf("%d, %v: a chain is taken: %v, offsets %v are: %v", c.n, edges, found, solved, offsets)
			}
			if found {
				chains++
			}
		})
	}
	if chains < lists/100 || chains == lists {
		t.Errorf("chains of %d of %d lists are taken", chains, lists)
	}
}

// TestChainAllShort holds chains of edges that are or aren't among the others against what is told plainly.
func TestChainAllShort(t *testing.T) {
	taken := 0
	for _, c := range []struct {
		n, edges, longest int
		reach             int64
	}{{1, 2, 3, 1}, {2, 2, 3, 1}} {
		allLists(allKinds(c.n, c.reach), c.edges, func(edges []api.Edge) {
			allLists(allKinds(c.n, c.reach), c.longest, func(chain []api.Edge) {
				want := toldChain(edges, chain)
				if got := Chain(c.n, edges, chain); got != want {
					t.Errorf("all short, %d, %v: chain %v taken: %v, want %v", c.n, edges, chain, got, want)
				}
				if want {
					taken++
				}
			})
		})
	}
	if taken < 50 {
		t.Errorf("%d of the chains are taken, too few", taken)
	}
}

// drawn are edges of so many hosts: of any weights, or of weights about what some clocks ask for, some of them round, so that many of them can nearly be met.
func drawn(r *rand.Rand, n int) []api.Edge {
	reach := int64(1) << r.Intn(51)
	clocks := make([]int64, n)
	for host := range clocks {
		clocks[host] = r.Int63n(2*reach+1) - reach
	}
	edges := make([]api.Edge, r.Intn(4*n+1))
	for i := range edges {
		from, to := r.Intn(n), r.Intn(n)
		edges[i] = edge(from, to, clocks[to]-clocks[from]+r.Int63n(min(reach, 4)))
		if r.Intn(8*n) == 0 {
			edges[i].Weight--
		}
	}
	if r.Intn(4) == 0 {
		for i := range edges {
			edges[i].Weight = r.Int63n(2*reach+1) - reach/2
		}
	}
	for range r.Intn(3) {
		among := r.Perm(n)[:1+r.Intn(n)]
		for place, from := range among {
			to := among[(place+1)%len(among)]
			edges = append(edges, edge(from, to, clocks[to]-clocks[from]))
		}
		edges[len(edges)-1].Weight -= r.Int63n(3)
	}
	r.Shuffle(len(edges), func(i, j int) { edges[i], edges[j] = edges[j], edges[i] })
	for i := range edges {
		edges[i].Pair, edges[i].End = api.Pair{Client: r.Intn(9), Server: i}, r.Intn(2) == 0
	}
	return edges
}

// holdOthers holds that of edges that can be met no other offsets than Solve's are taken, some of which hold, too, nor a chain.
func holdOthers(t *testing.T, r *rand.Rand, n int, edges []api.Edge, solved []int64) {
	t.Helper()
	holdOffsets(t, "solved", n, edges, solved, true)
	for range 6 {
		other := slices.Clone(solved)
		by := r.Int63n(1<<r.Intn(54)) + 1
		for host := range other {
			if r.Intn(2) == 0 {
				other[host] -= by
			}
		}
		holdOffsets(t, "some put down", n, edges, other, slices.Equal(other, solved))
		other = slices.Clone(solved)
		other[r.Intn(n)] += 1 - 2*r.Int63n(2)
		holdOffsets(t, "one put up or down by 1", n, edges, other, false)
	}
	for range 6 {
		if chain := walked(r, edges, r.Intn(n)); len(chain) > 0 {
			if toldChain(edges, chain) {
				t.Errorf("%d, %v: they can be met, but %v is told", n, edges, chain)
			}
			holdChain(t, "a round of those that can be met", n, edges, chain, false)
		}
	}
}

// walked is a round of edges, if one comes to it by going on from a host, each time by any of the edges that begin there.
func walked(r *rand.Rand, edges []api.Edge, host int) []api.Edge {
	var over []api.Edge
	for {
		if at := slices.IndexFunc(over, func(e api.Edge) bool { return e.From == host }); at != -1 {
			return over[at:]
		}
		var on []api.Edge
		for _, e := range edges {
			if e.From == host {
				on = append(on, e)
			}
		}
		if len(on) == 0 {
			return nil
		}
		over = append(over, on[r.Intn(len(on))])
		host = over[len(over)-1].To
	}
}

// holdWitness holds that of edges that can't be met layer 16's chain is taken, wherever it begins, but no less and no more of it, and no offsets are.
func holdWitness(t *testing.T, r *rand.Rand, n int, edges []api.Edge) {
	t.Helper()
	chain := loop.Of(n, edges)
	for first := range chain {
		begin := turned(chain, first)
		holdChain(t, "witness", n, edges, begin, true)
		holdChain(t, "witness, one too few", n, edges, begin[1:], false)
		holdChain(t, "witness, one too many", n, edges, append(begin, begin[0]), false)
		without := slices.DeleteFunc(slices.Clone(edges), func(e api.Edge) bool { return e == begin[0] })
		holdChain(t, "witness, one isn't among the edges", n, without, begin, false)
	}
	layers, _ := relax.Layers(n, edges)
	for _, layer := range layers {
		holdOffsets(t, "a layer", n, edges, layer, false)
	}
	for range 4 {
		if round := walked(r, edges, r.Intn(n)); len(round) > 0 {
			holdChain(t, "a round", n, edges, round, toldChain(edges, round))
		}
	}
}

func TestDrawn(t *testing.T) {
	r := rand.New(rand.NewSource(17))
	met, unmet := 0, 0
	for range 3000 {
		n := 1 + r.Intn(6)
		if r.Intn(5) == 0 {
			n = 1 + r.Intn(api.MaxHosts)
		}
		edges := drawn(r, n)
		if solved, ok := relax.Solve(n, edges); ok {
			holdOthers(t, r, n, edges, solved)
			met++
		} else {
			holdWitness(t, r, n, edges)
			unmet++
		}
	}
	if met < 300 || unmet < 300 {
		t.Errorf("%d of the lists drawn can be met, %d can't", met, unmet)
	}
}

// TestDrawnTold holds offsets of few hosts, near Solve's, against those that are told plainly.
func TestDrawnTold(t *testing.T) {
	r := rand.New(rand.NewSource(1702))
	taken, holds := 0, 0
	for range 4000 {
		n := 1 + r.Intn(5)
		edges := drawn(r, n)
		layers, _ := relax.Layers(n, edges)
		offsets := slices.Clone(layers[n])
		for range r.Intn(3) {
			offsets[r.Intn(n)] -= r.Int63n(5) - 1
		}
		want := toldOffsets(n, edges, offsets)
		holdOffsets(t, "drawn", n, edges, offsets, want)
		if want {
			taken++
		} else if bound.All(edges, offsets) {
			holds++
		}
	}
	if taken < 300 || holds < 300 {
		t.Errorf("%d of the offsets drawn are taken, of %d others all edges hold", taken, holds)
	}
}

func TestManyEdges(t *testing.T) {
	const n, many = api.MaxHosts, 20000
	edges := make([]api.Edge, many)
	for i := range edges {
		edges[i] = edge(i%n, (i*7+1)%n, int64(i))
	}
	offsets := make([]int64, n)
	offsets[n-1] = -5
	edges = append(edges, edge(0, n-1, -5))
	holdOffsets(t, "many edges", n, edges, offsets, true)
	holdOffsets(t, "many edges, but the last one", n, edges[:many], offsets, false)
	back := append(edges, edge(n-1, 0, 4))
	holdOffsets(t, "many edges, the last one too much", n, back, offsets, false)
	holdChain(t, "many edges, the last two", n, back, back[many:], true)
	holdChain(t, "many edges, all of them", n, back, back, false)
	holdChain(t, "many edges, the last one away", n, edges, back[many:], false)
	holdChain(t, "many edges, the last one out of range", n, append(back, edge(n, 0, 4)), back[many:], false)
}

func TestArgumentsStayAsTheyAre(t *testing.T) {
	edges := list(edge(1, 2, -2), edge(0, 1, -7), edge(2, 0, 9), edge(2, 0, 8), edge(1, 1, -9))
	offsets := row(0, -7, -9, 5)
	chain := list(edges[3], edges[1], edges[0], edges[4])
	keptEdges, keptOffsets, keptChain := slices.Clone(edges), slices.Clone(offsets), slices.Clone(chain)
	for range 2 {
		holdOffsets(t, "all but the last", 3, edges[:3], offsets[:3], true)
		holdChain(t, "all but the last", 3, edges[:4], chain[:3], true)
		if !slices.Equal(edges, keptEdges) || !slices.Equal(offsets, keptOffsets) || !slices.Equal(chain, keptChain) {
			t.Errorf("what was handed in has changed to %v, %v, %v", edges, offsets, chain)
		}
	}
	clear(edges)
	clear(chain)
	holdOffsets(t, "written into", 3, edges[:3], offsets[:3], false)
	holdOffsets(t, "kept", 3, keptEdges[:3], keptOffsets[:3], true)
	holdChain(t, "written into", 3, edges[:4], chain[:3], false)
	holdChain(t, "kept", 3, keptEdges[:4], keptChain[:3], true)
}
