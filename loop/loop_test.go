package loop

import (
	"math"
	"math/big"
	"math/rand"
	"slices"
	"testing"

	"merkhet/api"
	"merkhet/relax"
)

// edge is one of the start of no pair.
func edge(from, to int, weight int64) api.Edge {
	return api.Edge{From: from, To: to, Weight: weight}
}

// list are edges.
func list(edges ...api.Edge) []api.Edge { return edges }

// holdOf tells where the chain isn't the one that is wanted.
func holdOf(t *testing.T, what string, n int, edges []api.Edge, want ...api.Edge) {
	t.Helper()
	if got := Of(n, edges); !slices.Equal(got, want) {
		t.Errorf("%s, %d, %v: %v, want %v", what, n, edges, got, want)
	}
}

// holdWitness holds P16.2 of what is answered of edges, and that there is none just if they may not be, or can be met.
func holdWitness(t *testing.T, what string, n int, edges []api.Edge) {
	t.Helper()
	chain := Of(n, edges)
	_, met := relax.Solve(n, edges)
	if none := met || !relax.May(n, edges); none || len(chain) == 0 {
		if none != (len(chain) == 0) {
			t.Errorf("%s, %d, %v: %v, none is wanted: %v", what, n, edges, chain, none)
		}
		return
	}
	sum := new(big.Int)
	begun := map[int]bool{}
	for place, e := range chain {
		next := chain[(place+1)%len(chain)]
		if e.To != next.From || begun[e.From] || !slices.Contains(edges, e) || e.From < chain[0].From {
			t.Errorf("%s, %d, %v: %v is no chain of them that begins at its least host", what, n, edges, chain)
		}
		begun[e.From] = true
		sum.Add(sum, big.NewInt(e.Weight))
	}
	if sum.Sign() >= 0 {
		t.Errorf("%s, %d, %v: %v is %v together", what, n, edges, chain, sum)
	}
}

// round are edges from each host to the next one, and from the last one to the first one, whose weights are 0 but one.
func round(n, at int, weight int64) []api.Edge {
	edges := make([]api.Edge, n)
	for host := range edges {
		edges[host] = edge(host, (host+1)%n, 0)
	}
	edges[at].Weight = weight
	return edges
}

func TestExample(t *testing.T) {
	holdOf(t, "example", 2, list(edge(0, 1, -7), edge(1, 0, 6)), edge(0, 1, -7), edge(1, 0, 6))
}

// wild are numbers that are no hosts of any; also those of which the lower half would do.
func wild() []int {
	return []int{math.MinInt, math.MinInt + 1, math.MinInt32, -1 << 32, -1<<32 + 1, -32, -2, -1, 32, 33, math.MaxInt32, math.MaxUint32, 1 << 32, 1<<32 + 1, 1 << 62, math.MaxInt - 1, math.MaxInt}
}

func TestNoneOfThoseThatMayNotBe(t *testing.T) {
	unmet := list(edge(0, 1, -7), edge(1, 0, 6))
	for _, n := range append(wild(), 0, 1) {
		if n != api.MaxHosts {
			holdOf(t, "hosts out of range", n, unmet)
			holdOf(t, "hosts out of range, one edge", n, list(edge(0, 1, 0)))
		}
	}
	for _, n := range append(wild(), 0) {
		if n != api.MaxHosts {
			holdOf(t, "hosts out of range, from a host to itself", n, list(edge(0, 0, -1)))
			holdOf(t, "hosts out of range, no edges", n, nil)
		}
	}
	for _, n := range []int{2, 3, 31, 32} {
		for _, none := range append(wild(), n, n+1) {
			holdOf(t, "From", n, append(list(edge(none, 0, -1)), unmet...))
			holdOf(t, "To", n, append(list(edge(0, none, -1)), unmet...))
			holdOf(t, "both", n, append(unmet[:2:2], edge(none, none, -1)))
			holdOf(t, "both, alone", n, list(edge(none, none, -1)))
		}
	}
	for _, weight := range []int64{math.MinInt64, math.MinInt64 + 1, -1 << 62, -1 << 53, -1<<52 - 1, 1<<52 + 1, 1 << 53, 1 << 62, math.MaxInt64 - 1, math.MaxInt64} {
		holdOf(t, "too far from 0", 2, append(unmet[:2:2], edge(1, 0, weight)))
		holdOf(t, "too far from 0, from a host to itself", 2, append(list(edge(1, 1, weight)), unmet...))
		holdOf(t, "too far from 0, alone", 1, list(edge(0, 0, weight)))
	}
}

func TestNoneOfThoseThatCanBeMet(t *testing.T) {
	for n := range api.MaxHosts + 1 {
		holdOf(t, "nil", n, nil)
		holdOf(t, "empty", n, list())
		for host := range n {
			holdOf(t, "from a host to itself, 0", n, list(edge(host, host, 0)))
			holdOf(t, "from a host to itself, above 0", n, list(edge(host, host, 1)))
		}
	}
	for _, c := range []struct {
		what  string
		n     int
		edges []api.Edge
	}{
		{"one below 0", 2, list(edge(0, 1, -7))},
		{"one above 0", 2, list(edge(0, 1, 7))},
		{"round, just met", 2, list(edge(0, 1, -7), edge(1, 0, 7))},
		{"round, with room", 2, list(edge(0, 1, -7), edge(1, 0, 9))},
		{"two ways to one", 3, list(edge(0, 1, -2), edge(1, 2, -3), edge(0, 2, -6))},
		{"round of three, just met", 3, list(edge(0, 1, -2), edge(1, 2, -3), edge(2, 0, 5))},
		{"less only just ahead of the last layer", 3, list(edge(0, 1, -2), edge(1, 2, -3))},
		{"the farthest from 0", 2, list(edge(0, 1, -1<<52), edge(1, 0, 1<<52))},
	} {
		holdOf(t, c.what, c.n, c.edges)
	}
}

func TestOrdinary(t *testing.T) {
	for _, c := range []struct {
		what        string
		n           int
		edges, want []api.Edge
	}{
		{"from a host to itself", 1, list(edge(0, 0, -1)), list(edge(0, 0, -1))},
		{"from a host to itself, the least one", 1, list(edge(0, 0, -1), edge(0, 0, -3), edge(0, 0, -2)), list(edge(0, 0, -3))},
		{"from the last host to itself", 3, list(edge(2, 2, -1), edge(0, 1, -5)), list(edge(2, 2, -1))},
		{"two hosts, the second edge first", 2, list(edge(1, 0, 6), edge(0, 1, -7)), list(edge(0, 1, -7), edge(1, 0, 6))},
		{"two hosts, the second edge is below 0", 2, list(edge(1, 0, -7), edge(0, 1, 6)), list(edge(0, 1, 6), edge(1, 0, -7))},
		{"both below 0", 2, list(edge(1, 0, -1), edge(0, 1, -1)), list(edge(0, 1, -1), edge(1, 0, -1))},
		{"the lesser of two that go alike", 2, list(edge(0, 1, -6), edge(0, 1, -7), edge(1, 0, 6), edge(1, 0, 5)), list(edge(0, 1, -7), edge(1, 0, 5))},
		{
			"rising hosts",
			4,
			list(edge(2, 3, 0), edge(1, 2, 1), edge(3, 1, -2)),
			list(edge(1, 2, 1), edge(2, 3, 0), edge(3, 1, -2)),
		},
		{
			"falling hosts",
			4,
			list(edge(3, 2, 0), edge(2, 1, 1), edge(1, 3, -2)),
			list(edge(1, 3, -2), edge(3, 2, 0), edge(2, 1, 1)),
		},
		{
			"some outside, on the way to it and behind it",
			5,
			list(edge(0, 2, -4), edge(2, 3, -1), edge(3, 2, 0), edge(3, 1, -9), edge(1, 4, -9)),
			list(edge(2, 3, -1), edge(3, 2, 0)),
		},
	} {
		holdOf(t, c.what, c.n, c.edges, c.want...)
		holdWitness(t, c.what, c.n, c.edges)
	}
}

// TestBegunAtTheLeastThatHasLess holds that the way back begins at the least host that has less in the last layer, although a chain through a lesser host is there.
func TestBegunAtTheLeastThatHasLess(t *testing.T) {
	one, other := list(edge(1, 2, -1), edge(2, 1, 0)), list(edge(0, 3, 0), edge(3, 0, -1))
	holdOf(t, "in the layer 4: 1 and 3", 4, append(other[:2:2], one...), one...)
	holdOf(t, "in the layer 4: 1 and 3, the other way round", 4, append(one[:2:2], other...), one...)
	swift, slow := list(edge(1, 2, 0), edge(2, 1, -1)), list(edge(0, 3, -1), edge(3, 0, 0))
	holdOf(t, "in the layer 4: 0 and 2", 4, append(swift[:2:2], slow...), slow...)
	holdOf(t, "in the layer 4: 2 and 3", 4, append(swift[:2:2], other...), swift...)
	holdOf(t, "in the layer 5: 0 and 1", 5, append(swift[:2:2], other...), other...)
	holdOf(t, "in the layer 5: 2 and 3", 5, append(one[:2:2], slow...), one...)
	// The host that has less is itself on no chain.
	holdOf(t, "behind the chain", 4, list(edge(1, 2, -1), edge(2, 1, 0), edge(1, 0, 0)), one...)
	holdOf(t, "behind the chain, by two", 4, list(edge(2, 3, -1), edge(3, 2, -1), edge(2, 1, 0), edge(1, 0, 0)), edge(2, 3, -1), edge(3, 2, -1))
}

// TestFirstHostThatIsMetAgain holds that the way back is left as soon as one comes to any host where one was, not only to the one at which it begins.
func TestFirstHostThatIsMetAgain(t *testing.T) {
	holdOf(t, "from 1 to itself, and from there to 0", 2, list(edge(1, 1, -2), edge(1, 0, -1)), edge(1, 1, -2))
	holdOf(t, "a short chain on a long one's way", 3, list(edge(0, 1, -1), edge(1, 2, -1), edge(2, 0, -1), edge(1, 1, -5)), edge(1, 1, -5))
	short := list(edge(1, 2, -3), edge(2, 1, -3))
	holdOf(t, "a short chain of two on a long one's way", 4, append(list(edge(0, 1, -1), edge(2, 3, -1), edge(3, 0, -1)), short...), short...)
}

// TestLayersTell holds that an edge is the one of its own layer: here the host 0 came to less first by one, then by another edge.
func TestLayersTell(t *testing.T) {
	edges := list(edge(1, 0, -5), edge(2, 0, -1), edge(0, 2, -6))
	holdOf(t, "0 by 1 in the layer 1, by 2 ahead of the last one", 3, edges, edge(0, 2, -6), edge(2, 0, -1))
	edges = list(edge(0, 1, -1), edge(0, 1, -1), edge(1, 0, -1))
	edges[0].End = true
	holdOf(t, "the first of those that make it", 2, edges, edges[0], edges[2])
}

// TestAllOfEdges holds that edges are answered whole, with their pairs, of which nothing else hangs.
func TestAllOfEdges(t *testing.T) {
	for _, p := range []api.Pair{{}, {Client: 0, Server: 1}, {Client: -1, Server: 99}, {Client: math.MinInt, Server: math.MaxInt}} {
		for _, end := range []bool{false, true} {
			there, back := edge(0, 1, -7), edge(1, 0, 6)
			there.Pair, there.End = p, end
			back.Pair, back.End = api.Pair{Client: p.Server, Server: p.Client}, !end
			holdOf(t, "any pair", 2, list(there, back), there, back)
			holdOf(t, "any pair, the second edge first", 2, list(back, edge(1, 0, 6), there, edge(0, 1, -7)), there, back)
			self := there
			self.To = 0
			holdOf(t, "any pair, from a host to itself", 1, list(self), self)
		}
	}
}

// TestRounds holds rounds of as many hosts as there are, each of which is the chain, wherever it is below 0, and however the hosts stand.
func TestRounds(t *testing.T) {
	r := rand.New(rand.NewSource(1600))
	for n := 1; n <= api.MaxHosts; n++ {
		for at := range n {
			edges := round(n, at, -1)
			holdOf(t, "one below 0", n, edges, edges...)
			holdOf(t, "just 0", n, round(n, at, 0))
			mixed := slices.Clone(edges)
			r.Shuffle(n, func(i, j int) { mixed[i], mixed[j] = mixed[j], mixed[i] })
			holdOf(t, "one below 0, in any order", n, mixed, edges...)
			back := make([]api.Edge, n) // 0 to n - 1, n - 1 to n - 2, and so on
			for host := range back {
				back[host] = edge((n-host)%n, n-1-host, edges[host].Weight)
			}
			holdOf(t, "one below 0, falling", n, back, back...)
		}
		renamed := r.Perm(n)
		edges := make([]api.Edge, n)
		for host := range n {
			edges[renamed[host]] = edge(renamed[host], renamed[(host+1)%n], int64(host%3-1))
		}
		edges[renamed[0]].Weight -= int64(n)
		want := list(edges[0])
		for at := edges[0].To; at != 0; at = edges[at].To {
			want = append(want, edges[at])
		}
		holdOf(t, "hosts in any order", n, edges, want...)
	}
}

func TestFarthestWeights(t *testing.T) {
	const n, most = api.MaxHosts, 1 << 52
	farthest := make([]api.Edge, n)
	for host := range farthest {
		farthest[host] = edge(host, (host+1)%n, -most)
	}
	holdOf(t, "all the farthest below 0", n, farthest, farthest...)
	mixed := slices.Clone(farthest)
	for host := 1; host < n; host += 2 {
		mixed[host].Weight = most
	}
	holdOf(t, "the farthest below 0 and above, just met", n, mixed)
	for at := 1; at < n; at += 2 {
		by := slices.Clone(mixed)
		by[at].Weight--
		holdOf(t, "the farthest below 0 and above, by 1", n, by, by...)
	}
	holdOf(t, "beyond 53 bits, by 1", 3, list(edge(0, 1, 1-most), edge(1, 2, 1-most), edge(2, 0, most), edge(1, 0, most-2)), edge(0, 1, 1-most), edge(1, 2, 1-most), edge(2, 0, most))
}

// had is what the hosts of each layer have, told plainly.
func had(n int, edges []api.Edge) [][]int64 {
	out := [][]int64{make([]int64, n)}
	for number := range n {
		layer := slices.Clone(out[number])
		for _, e := range edges {
			layer[e.To] = min(layer[e.To], out[number][e.From]+e.Weight)
		}
		out = append(out, layer)
	}
	return out
}

// toldOf is what Of has to answer of edges that may be, told by the layers alone: all the way back to the layer 0, and what of it goes round first.
func toldOf(n int, edges []api.Edge) []api.Edge {
	layers := had(n, edges)
	at := -1
	for host := n - 1; host >= 0; host-- {
		if layers[n][host] < layers[n-1][host] {
			at = host
		}
	}
	if at == -1 {
		return nil
	}
	hosts, over := []int{at}, []api.Edge(nil)
	for number := n; number > 0; number-- {
		place := slices.IndexFunc(edges, func(e api.Edge) bool {
			return e.To == at && layers[number-1][e.From]+e.Weight == layers[number][at]
		})
		at = edges[place].From
		hosts, over = append(hosts, at), append(over, edges[place])
	}
	last := 1
	for slices.Index(hosts, hosts[last]) == last {
		last++
	}
	chain := slices.Clone(over[slices.Index(hosts, hosts[last]):last])
	slices.Reverse(chain)
	for slices.MinFunc(chain, func(a, b api.Edge) int { return a.From - b.From }).From != chain[0].From {
		chain = append(chain[1:], chain[0])
	}
	return chain
}

// holdTold holds what is answered of edges that may be against what is told plainly; it tells whether there is a chain.
func holdTold(t *testing.T, what string, n int, edges []api.Edge) bool {
	t.Helper()
	want := toldOf(n, edges)
	holdOf(t, what, n, edges, want...)
	holdWitness(t, what, n, edges)
	if len(want) > 0 {
		holdOf(t, what+", the chain alone", n, want, want...)
	}
	return len(want) > 0
}

// allShort hands on lists of up to most edges of n hosts, of weights from -reach to reach.
func allShort(n, most int, reach int64, each func([]api.Edge)) {
	var kinds, edges []api.Edge
	for from := range n {
		for to := range n {
			for weight := -reach; weight <= reach; weight++ {
				kinds = append(kinds, edge(from, to, weight))
			}
		}
	}
	var more func(left int)
	more = func(left int) {
		each(edges)
		for i := range kinds {
			if left > 0 {
				edges = append(edges, kinds[i])
				edges[len(edges)-1].Pair.Server = len(edges) // so that those that are alike are told apart
				more(left - 1)
				edges = edges[:len(edges)-1]
			}
		}
	}
	more(most)
}

func TestAllShort(t *testing.T) {
	chains, lists := 0, 0
	for _, c := range []struct {
		n, most int
		reach   int64
	}{{1, 4, 2}, {2, 4, 1}, {2, 3, 2}, {3, 3, 1}} {
		allShort(c.n, c.most, c.reach, func(edges []api.Edge) {
			lists++
			if holdTold(t, "all short", c.n, edges) {
				chains++
			}
		})
	}
	if chains < lists/100 || chains == lists {
		t.Errorf("%d chains of %d lists", chains, lists)
	}
}

// drawn are edges of so many hosts: of any weights, or of weights about what some clocks ask for, some of them round, so that many of them can nearly be met.
func drawn(r *rand.Rand, n int) []api.Edge {
	reach := int64(1) << r.Intn(51)
	clocks := make([]int64, n)
	for host := range clocks {
		clocks[host] = r.Int63n(2*reach+1) - reach
	}
	edges := make([]api.Edge, r.Intn(4*n+1))
	for i := range edges {
		from, to := r.Intn(n), r.Intn(n)
		edges[i] = edge(from, to, clocks[to]-clocks[from]+r.Int63n(min(reach, 4)))
		if r.Intn(8*n) == 0 {
			edges[i].Weight--
		}
	}
	if r.Intn(4) == 0 {
		for i := range edges {
			edges[i].Weight = r.Int63n(2*reach+1) - reach/2
		}
	}
	for range r.Intn(3) {
		among := r.Perm(n)[:1+r.Intn(n)]
		for place, from := range among {
			to := among[(place+1)%len(among)]
			edges = append(edges, edge(from, to, clocks[to]-clocks[from]))
		}
		edges[len(edges)-1].Weight -= r.Int63n(3)
	}
	r.Shuffle(len(edges), func(i, j int) { edges[i], edges[j] = edges[j], edges[i] })
	for i := range edges {
		edges[i].Pair, edges[i].End = api.Pair{Client: r.Intn(9), Server: i}, r.Intn(2) == 0
	}
	return edges
}

func TestDrawn(t *testing.T) {
	r := rand.New(rand.NewSource(16))
	sizes := map[int]int{}
	for range 6000 {
		n := 1 + r.Intn(6)
		if r.Intn(5) == 0 {
			n = 1 + r.Intn(api.MaxHosts)
		}
		edges := drawn(r, n)
		holdTold(t, "drawn", n, edges)
		sizes[len(Of(n, edges))]++
	}
	for size, least := range []int{600, 300, 300, 200, 100, 60, 30, 10} {
		if sizes[size] < least {
			t.Errorf("chains of %d edges: %d, too few", size, sizes[size])
		}
	}
}

func TestManyEdges(t *testing.T) {
	const n, most = api.MaxHosts, 20000
	edges := make([]api.Edge, most)
	for i := range edges {
		edges[i] = edge(i%n, (i*7+1)%n, int64(i))
	}
	edges = append(edges, edge(0, n-1, -5), edge(n-1, 0, 4))
	holdOf(t, "many edges", n, edges, edge(0, n-1, -5), edge(n-1, 0, 4))
	holdOf(t, "many edges that can be met", n, edges[:most+1])
	holdOf(t, "many edges, the last one out of range", n, append(edges, edge(n, 0, 4)))
}

func TestArgumentsStayAsTheyAre(t *testing.T) {
	edges := list(edge(1, 2, -2), edge(0, 1, -7), edge(2, 0, 8), edge(2, 2, 5))
	kept := slices.Clone(edges)
	want := list(edge(0, 1, -7), edge(1, 2, -2), edge(2, 0, 8))
	got := Of(3, edges[:3])
	if !slices.Equal(edges, kept) || !slices.Equal(got, want) {
		t.Errorf("what was handed in has changed to %v, or %v is no %v", edges, got, want)
	}
	clear(edges)
	if !slices.Equal(got, want) {
		t.Errorf("writing into what was handed in changes the answer to %v", got)
	}
	edges = slices.Clone(want) // here the chain is all of them, in their order
	got = Of(3, edges)
	clear(got)
	got = append(got, edge(9, 9, 9))
	if !slices.Equal(edges, want) {
		t.Errorf("writing into the answer changes what was handed in to %v", edges)
	}
	holdOf(t, "written into", 3, edges, want...)
	holdOf(t, "written into", 3, kept, want...)
}
