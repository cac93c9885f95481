package relax

import (
	"math"
	"math/big"
	"math/rand"
	"slices"
	"testing"

	"merkhet/api"
	"merkhet/bound"
)

// edge is one of the start of no pair.
func edge(from, to int, weight int64) api.Edge {
	return api.Edge{From: from, To: to, Weight: weight}
}

// list are edges.
func list(edges ...api.Edge) []api.Edge { return edges }

// noEdges are so many times no edge.
func noEdges(n int) []int { return slices.Repeat([]int{-1}, n) }

// holdMay tells where edges may be, or not, other than it is wanted; the other calls have to answer by it.
func holdMay(t *testing.T, what string, n int, edges []api.Edge, want bool) {
	t.Helper()
	if got := May(n, edges); got != want {
		t.Errorf("%s, %d, %v: may be %v, want %v", what, n, edges, got, want)
	}
	offsets, by := Layers(n, edges)
	if want && (len(offsets) != n+1 || len(by) != n+1) || !want && len(offsets)+len(by) != 0 {
		t.Errorf("%s, %d, %v: %d and %d layers", what, n, edges, len(offsets), len(by))
	}
	if last, ok := Solve(n, edges); !want && (ok || len(last) != 0) {
		t.Errorf("%s, %d, %v: solved %v, %v, may not be", what, n, edges, last, ok)
	}
}

// holdLayers tells where the layers aren't those that are wanted.
func holdLayers(t *testing.T, what string, n int, edges []api.Edge, offsets [][]int64, by [][]int) {
	t.Helper()
	gotOffsets, gotBy := Layers(n, edges)
	if !slices.EqualFunc(gotOffsets, offsets, slices.Equal) {
		t.Errorf("%s, %d, %v: layers %v, want %v", what, n, edges, gotOffsets, offsets)
	}
	if !slices.EqualFunc(gotBy, by, slices.Equal) {
		t.Errorf("%s, %d, %v: by %v, want %v", what, n, edges, gotBy, by)
	}
}

// holdSolve tells where the greatest offsets aren't those that are wanted.
func holdSolve(t *testing.T, what string, n int, edges []api.Edge, want ...int64) {
	t.Helper()
	if got, ok := Solve(n, edges); !ok || !slices.Equal(got, want) {
		t.Errorf("%s, %d, %v: %v, %v, want %v", what, n, edges, got, ok, want)
	}
}

// holdUnmet tells where edges that may be can be met, against what is wanted.
func holdUnmet(t *testing.T, what string, n int, edges []api.Edge) {
	t.Helper()
	holdMay(t, what, n, edges, true)
	if got, ok := Solve(n, edges); ok || len(got) != 0 {
		t.Errorf("%s, %d, %v: %v, %v, want none", what, n, edges, got, ok)
	}
}

// round are edges from each host to the next one, and from the last one to the first one, whose weights are 0 but one.
func round(n, at int, weight int64) []api.Edge {
	edges := make([]api.Edge, n)
	for host := range edges {
		edges[host] = edge(host, (host+1)%n, 0)
	}
	edges[at].Weight = weight
	return edges
}

func TestExample(t *testing.T) {
	holdSolve(t, "example", 2, list(edge(0, 1, -7)), 0, -7)
}

func TestMayHosts(t *testing.T) {
	for n := range api.MaxHosts + 1 {
		holdMay(t, "no edges", n, nil, true)
		holdMay(t, "no edges", n, list(), true)
	}
	for _, n := range []int{math.MinInt, math.MinInt32, -1 << 32, -33, -32, -2, -1, 33, 34, 64, math.MaxInt32, 1 << 32, 1<<32 + 1, math.MaxInt} {
		holdMay(t, "hosts out of range", n, nil, false)
		holdMay(t, "hosts out of range", n, list(), false)
		holdMay(t, "hosts out of range", n, list(edge(0, 0, 0)), false)
	}
}

// wild are numbers that are no hosts of any; also those of which the lower half would do.
func wild() []int {
	return []int{math.MinInt, math.MinInt + 1, math.MinInt32, -1 << 32, -1<<32 + 1, -32, -2, -1, 32, 33, math.MaxInt32, math.MaxUint32, 1 << 32, 1<<32 + 1, 1 << 62, math.MaxInt - 1, math.MaxInt}
}

func TestMayEnds(t *testing.T) {
	for _, n := range []int{1, 2, 3, 31, 32} {
		for _, at := range []int{0, n / 2, n - 1} {
			holdMay(t, "both in range", n, list(edge(at, 0, 0), edge(0, at, 0), edge(at, n-1, 0), edge(n-1, at, 0), edge(at, at, 0)), true)
			for _, none := range append(wild(), n, n+1) {
				holdMay(t, "From", n, list(edge(none, at, 0)), false)
				holdMay(t, "To", n, list(edge(at, none, 0)), false)
				holdMay(t, "both", n, list(edge(none, none, 0)), false)
			}
		}
	}
	for _, at := range append(wild(), 0, 1) {
		holdMay(t, "no hosts", 0, list(edge(at, at, 0)), false)
	}
}

func TestMayWeights(t *testing.T) {
	const most = 1 << 52
	for _, weight := range []int64{-most, -most + 1, -1 << 51, -1 << 32, -1, 0, 1, 1 << 32, 1 << 51, most - 1, most} {
		holdMay(t, "a weight", 2, list(edge(0, 1, weight)), true)
		holdMay(t, "a weight", 32, list(edge(31, 0, weight), edge(0, 31, weight), edge(5, 5, weight)), true)
	}
	for _, weight := range []int64{math.MinInt64, math.MinInt64 + 1, -1 << 62, -1 << 53, -most - 2, -most - 1, most + 1, most + 2, 1 << 53, 1 << 62, math.MaxInt64 - 1, math.MaxInt64} {
		holdMay(t, "too far from 0", 2, list(edge(0, 1, weight)), false)
		holdMay(t, "too far from 0, from a host to itself", 2, list(edge(1, 1, weight)), false)
	}
}

// TestMayByEachEdge holds that one edge is found, whichever it is.
func TestMayByEachEdge(t *testing.T) {
	whole := list(edge(0, 1, -7), edge(1, 2, 3), edge(2, 0, 1<<52), edge(1, 0, -1<<52), edge(2, 2, 0))
	holdMay(t, "whole", 3, whole, true)
	holdMay(t, "fewer hosts", 2, whole, false)
	holdMay(t, "more hosts", 4, whole, true)
	for place := range whole {
		for _, other := range list(edge(-1, 0, 0), edge(0, -1, 0), edge(3, 0, 0), edge(0, 3, 0), edge(0, 1, 1<<52+1), edge(0, 1, -1<<52-1)) {
			edges := slices.Clone(whole)
			edges[place] = other
			holdMay(t, "all but one", 3, edges, false)
		}
	}
}

func TestLayersOfNoEdges(t *testing.T) {
	for n := range api.MaxHosts + 1 {
		offsets, by := slices.Repeat([][]int64{make([]int64, n)}, n+1), slices.Repeat([][]int{noEdges(n)}, n+1)
		holdLayers(t, "nil", n, nil, offsets, by)
		holdLayers(t, "empty", n, list(), offsets, by)
		holdSolve(t, "nil", n, nil, make([]int64, n)...)
		holdSolve(t, "empty", n, list(), make([]int64, n)...)
	}
}

func TestLayersOrdinary(t *testing.T) {
	for _, c := range []struct {
		what    string
		edges   []api.Edge
		offsets [][]int64
		by      [][]int
	}{
		{"one edge", list(edge(0, 1, -7)), [][]int64{{0, 0}, {0, -7}, {0, -7}}, [][]int{{-1, -1}, {-1, 0}, {-1, -1}}},
		{"above 0", list(edge(0, 1, 7)), [][]int64{{0, 0}, {0, 0}, {0, 0}}, [][]int{{-1, -1}, {-1, -1}, {-1, -1}}},
		{"just what it had", list(edge(0, 1, 0)), [][]int64{{0, 0}, {0, 0}, {0, 0}}, [][]int{{-1, -1}, {-1, -1}, {-1, -1}}},
		{"the lesser of two", list(edge(0, 1, -7), edge(0, 1, -8)), [][]int64{{0, 0}, {0, -8}, {0, -8}}, [][]int{{-1, -1}, {-1, 1}, {-1, -1}}},
		{"the lesser of two, first", list(edge(0, 1, -8), edge(0, 1, -7)), [][]int64{{0, 0}, {0, -8}, {0, -8}}, [][]int{{-1, -1}, {-1, 0}, {-1, -1}}},
		{"the first of two", list(edge(0, 1, -7), edge(0, 1, -7)), [][]int64{{0, 0}, {0, -7}, {0, -7}}, [][]int{{-1, -1}, {-1, 0}, {-1, -1}}},
		{
			"from one layer ahead, the one behind first",
			list(edge(1, 2, -3), edge(0, 1, -2)),
			[][]int64{{0, 0, 0}, {0, -2, -3}, {0, -2, -5}, {0, -2, -5}},
			[][]int{{-1, -1, -1}, {-1, 1, 0}, {-1, -1, 0}, {-1, -1, -1}},
		},
		{
			"from one layer ahead, the one ahead first",
			list(edge(0, 1, -2), edge(1, 2, -3)),
			[][]int64{{0, 0, 0}, {0, -2, -3}, {0, -2, -5}, {0, -2, -5}},
			[][]int{{-1, -1, -1}, {-1, 0, 1}, {-1, -1, 1}, {-1, -1, -1}},
		},
		{
			"the first of those that make it, not the first that is less",
			list(edge(0, 2, -1), edge(1, 2, -4), edge(0, 2, -4), edge(1, 2, -4), edge(0, 2, -3)),
			[][]int64{{0, 0, 0}, {0, 0, -4}, {0, 0, -4}, {0, 0, -4}},
			[][]int{{-1, -1, -1}, {-1, -1, 1}, {-1, -1, -1}, {-1, -1, -1}},
		},
		{
			"another way comes to the same later",
			list(edge(0, 1, -2), edge(1, 2, -3), edge(0, 2, -5)),
			[][]int64{{0, 0, 0}, {0, -2, -5}, {0, -2, -5}, {0, -2, -5}},
			[][]int{{-1, -1, -1}, {-1, 0, 2}, {-1, -1, -1}, {-1, -1, -1}},
		},
		{
			"a weight above 0 behind one below 0",
			list(edge(0, 1, -9), edge(1, 2, 4), edge(2, 0, 6)),
			[][]int64{{0, 0, 0}, {0, -9, 0}, {0, -9, -5}, {0, -9, -5}},
			[][]int{{-1, -1, -1}, {-1, 0, -1}, {-1, -1, 1}, {-1, -1, -1}},
		},
		{
			"on and on",
			list(edge(0, 1, -7), edge(1, 0, 6)),
			[][]int64{{0, 0}, {0, -7}, {-1, -7}},
			[][]int{{-1, -1}, {-1, 0}, {1, -1}},
		},
		{
			"from a host to itself",
			list(edge(1, 1, 5), edge(1, 1, -3), edge(0, 0, 0)),
			[][]int64{{0, 0}, {0, -3}, {0, -6}},
			[][]int{{-1, -1}, {-1, 1}, {-1, 1}},
		},
	} {
		holdLayers(t, c.what, len(c.by[0]), c.edges, c.offsets, c.by)
	}
}

func TestSolveOrdinary(t *testing.T) {
	for _, c := range []struct {
		what  string
		n     int
		edges []api.Edge
		want  []int64
	}{
		{"above 0 alone", 2, list(edge(0, 1, 7)), []int64{0, 0}},
		{"to the first one", 2, list(edge(1, 0, -7)), []int64{-7, 0}},
		{"round, just met", 2, list(edge(0, 1, -7), edge(1, 0, 7)), []int64{0, -7}},
		{"round, with room", 2, list(edge(0, 1, -7), edge(1, 0, 9)), []int64{0, -7}},
		{"a way of two is less", 3, list(edge(0, 1, -2), edge(1, 2, -3), edge(0, 2, -4)), []int64{0, -2, -5}},
		{"a way of one is less", 3, list(edge(0, 1, -2), edge(1, 2, -3), edge(0, 2, -6)), []int64{0, -2, -6}},
		{"two clocks apart", 4, list(edge(0, 1, -2), edge(3, 2, -3)), []int64{0, -2, -3, 0}},
		{"no edge to the others", 3, list(edge(2, 2, 0)), []int64{0, 0, 0}},
		{"from a host to itself, 0", 1, list(edge(0, 0, 0)), []int64{0}},
		{"from a host to itself, above 0", 1, list(edge(0, 0, 3)), []int64{0}},
		{"the first below the others", 3, list(edge(1, 0, -4), edge(2, 0, -6), edge(0, 1, 5), edge(0, 2, 7)), []int64{-6, -1, 0}},
	} {
		holdSolve(t, c.what, c.n, c.edges, c.want...)
		if !bound.All(c.edges, c.want) {
			t.Errorf("%s: not all edges hold for what is wanted", c.what)
		}
	}
	holdUnmet(t, "round, below 0", 2, list(edge(0, 1, -7), edge(1, 0, 6)))
	holdUnmet(t, "from a host to itself, below 0", 1, list(edge(0, 0, -1)))
	holdUnmet(t, "some apart from the others", 4, list(edge(0, 1, 0), edge(2, 3, -5), edge(3, 2, 4)))
	holdUnmet(t, "by one of several ways", 3, list(edge(0, 1, -2), edge(1, 0, 2), edge(0, 2, 0), edge(2, 1, -3)))
}

// TestFieldsThatTell holds that neither the pair nor whose end it is counts.
func TestFieldsThatTell(t *testing.T) {
	for _, p := range []api.Pair{{}, {Client: 0, Server: 1}, {Client: -1, Server: 99}, {Client: math.MinInt, Server: math.MaxInt}} {
		for _, end := range []bool{false, true} {
			edges := list(edge(0, 1, -7), edge(1, 0, 9))
			edges[0].Pair, edges[0].End = p, end
			edges[1].Pair, edges[1].End = p, !end
			holdMay(t, "any pair", 2, edges, true)
			holdSolve(t, "any pair", 2, edges, 0, -7)
		}
	}
}

// TestEndsOfRounds holds rounds of as many hosts as there are, of which the last layer alone tells whether they are met.
func TestEndsOfRounds(t *testing.T) {
	for n := 1; n <= api.MaxHosts; n++ {
		for at := range n {
			holdUnmet(t, "one below 0", n, round(n, at, -1))
			holdSolve(t, "just 0", n, round(n, at, 0), make([]int64, n)...)
			holdSolve(t, "one above 0", n, round(n, at, 1), make([]int64, n)...)
			if n == 1 {
				continue
			}
			edges := round(n, at, -1)
			edges[(at+n-1)%n].Weight = 1 // the edge that comes to where the one below 0 begins
			want := slices.Repeat([]int64{-1}, n)
			want[at] = 0
			holdSolve(t, "one below 0 and one above", n, edges, want...)
		}
	}
}

// TestFarthestOffsets holds that sums as far from 0 as may be are told whole.
func TestFarthestOffsets(t *testing.T) {
	const n, most = api.MaxHosts, 1 << 52
	edges, want := []api.Edge(nil), make([]int64, n)
	for host := range n - 1 {
		edges = append(edges, edge(host, host+1, -most))
		want[host+1] = want[host] - most
	}
	holdSolve(t, "rising hosts", n, edges, want...)
	slices.Reverse(edges)
	holdSolve(t, "rising hosts, the last edge first", n, edges, want...)
	for i, e := range edges {
		edges[i].From, edges[i].To = e.To, e.From
	}
	slices.Reverse(want)
	holdSolve(t, "falling hosts", n, edges, want...)
	offsets, _ := Layers(n, edges)
	for number, layer := range offsets {
		for host, got := range layer {
			if want := -most * int64(min(number, n-1-host)); got != want {
				t.Errorf("falling hosts, layer %d, host %d: %d, want %d", number, host, got, want)
			}
		}
	}
	holdUnmet(t, "all the farthest below 0, round", n, append(edges, edge(0, n-1, -most)))
	if last, _ := Layers(n, append(edges, edge(0, n-1, -most))); last[n][0] != -n*most {
		t.Errorf("round: %d, want %d", last[n][0], -n*most)
	}
	holdSolve(t, "the farthest above 0", 2, list(edge(0, 1, most), edge(1, 0, most), edge(0, 0, most)), 0, 0)
}

// TestOddOffsets holds that sums of more than 53 bits, that aren't round in two's powers, are told to the last one.
func TestOddOffsets(t *testing.T) {
	const n, most = api.MaxHosts, 1 << 52
	near, nearly := []api.Edge(nil), make([]int64, n)
	for host := range n - 1 {
		near = append(near, edge(host, host+1, 1-most))
		nearly[host+1] = nearly[host] - most + 1
	}
	holdSolve(t, "beyond 53 bits", n, near, nearly...)
	holdUnmet(t, "beyond 53 bits, by 1", n, append(near, edge(n-1, n-2, most-2)))
	holdSolve(t, "beyond 53 bits, just met", n, append(near, edge(n-1, n-2, most-1)), nearly...)
}

// toldLayers is what Layers has to answer of edges that may be, told plainly: of what a host had, and what the edges to it make, the first that is least.
func toldLayers(n int, edges []api.Edge) (offsets [][]int64, by [][]int) {
	offsets, by = [][]int64{make([]int64, n)}, [][]int{noEdges(n)}
	for number := range n {
		layer, ways := make([]int64, n), make([]int, n)
		for host := range n {
			least, way := offsets[number][host], -1
			for place := len(edges) - 1; place >= 0; place-- {
				e := edges[place]
				if sum := offsets[number][e.From] + e.Weight; e.To == host && (sum < least || sum == least && way != -1) {
					least, way = sum, place
				}
			}
			layer[host], ways[host] = least, way
		}
		offsets, by = append(offsets, layer), append(by, ways)
	}
	return offsets, by
}

// shortest are the least weights of all ways from host to host, by numbers of any size; false, if there is a round below 0.
func shortest(n int, edges []api.Edge) ([]*big.Int, bool) {
	way := make([]*big.Int, n*n) // nil: none
	for host := range n {
		way[host*n+host] = new(big.Int)
	}
	lower := func(from, to int, weight *big.Int) {
		if at := from*n + to; way[at] == nil || weight.Cmp(way[at]) < 0 {
			way[at] = weight
		}
	}
	for _, e := range edges {
		lower(e.From, e.To, big.NewInt(e.Weight))
	}
	for over := range n {
		for from := range n {
			for to := range n {
				if a, b := way[from*n+over], way[over*n+to]; a != nil && b != nil {
					lower(from, to, new(big.Int).Add(a, b))
				}
			}
		}
	}
	for host := range n {
		if way[host*n+host].Sign() < 0 {
			return nil, false
		}
	}
	return way, true
}

// toldSolve is what Solve has to answer of edges that may be, told by the ways from host to host.
func toldSolve(n int, edges []api.Edge) ([]int64, bool) {
	way, ok := shortest(n, edges)
	if !ok {
		return nil, false
	}
	out := make([]int64, n)
	for at, w := range way {
		if to := at % n; w != nil && w.Cmp(big.NewInt(out[to])) < 0 {
			out[to] = w.Int64()
		}
	}
	return out, true
}

// holdGreatest holds P15.2 of offsets that were answered: all edges hold for them, none is above 0, and no hosts can be put up together by 1.
func holdGreatest(t *testing.T, n int, edges []api.Edge, offsets []int64) {
	t.Helper()
	if len(offsets) != n || !bound.All(edges, offsets) {
		t.Errorf("%d, %v: not all edges hold for %v", n, edges, offsets)
		return
	}
	for host, offset := range offsets {
		if offset > 0 {
			t.Errorf("%d, %v: host %d has %d, above 0", n, edges, host, offset)
		}
	}
	for _, set := range raised(n) {
		higher := slices.Clone(offsets)
		above := false
		for _, host := range set {
			higher[host]++
			above = above || higher[host] > 0
		}
		if !above && bound.All(edges, higher) {
			t.Errorf("%d, %v: %v isn't greatest, %v holds too", n, edges, offsets, higher)
		}
	}
}

// raised are sets of hosts: all that there are but that of none, of few hosts; else each alone, and all.
func raised(n int) [][]int {
	var sets [][]int
	if n > 6 {
		all := make([]int, n)
		for host := range n {
			all[host] = host
			sets = append(sets, []int{host})
		}
		return append(sets, all)
	}
	for pick := 1; pick < 1<<n; pick++ {
		var set []int
		for host := range n {
			if pick>>host&1 == 1 {
				set = append(set, host)
			}
		}
		sets = append(sets, set)
	}
	return sets
}

// holdTold holds all answers of edges that may be against those that are told plainly; it tells whether they can be met.
func holdTold(t *testing.T, what string, n int, edges []api.Edge) (met bool) {
	t.Helper()
	holdMay(t, what, n, edges, true)
	offsets, by := toldLayers(n, edges)
	holdLayers(t, what, n, edges, offsets, by)
	want, ok := toldSolve(n, edges)
	if !ok {
		holdUnmet(t, what, n, edges)
		return false
	}
	holdSolve(t, what, n, edges, want...)
	got, _ := Solve(n, edges)
	holdGreatest(t, n, edges, got)
	return true
}

// allShort hands on lists of up to most edges of n hosts, of weights from -reach to reach.
func allShort(n, most int, reach int64, each func([]api.Edge)) {
	var kinds, edges []api.Edge
	for from := range n {
		for to := range n {
			for weight := -reach; weight <= reach; weight++ {
				kinds = append(kinds, edge(from, to, weight))
			}
		}
	}
	var more func(left int)
	more = func(left int) {
		each(edges)
		for i := range kinds {
			if left > 0 {
				edges = append(edges, kinds[i])
				more(left - 1)
				edges = edges[:len(edges)-1]
			}
		}
	}
	more(most)
}

// byTrial are the greatest whole numbers from -down to 0 for which all edges hold, found out by trying all of them; none, if there are none.
func byTrial(n int, edges []api.Edge, down int64) []int64 {
	var best []int64
	offsets := slices.Repeat([]int64{-down}, n)
	for {
		if bound.All(edges, offsets) {
			if best == nil {
				best = slices.Clone(offsets)
			}
			for host := range best {
				best[host] = max(best[host], offsets[host])
			}
		}
		at := 0
		for ; at < n && offsets[at] == 0; at++ {
			offsets[at] = -down
		}
		if at == n {
			return best
		}
		offsets[at]++
	}
}

// TestGreatestAllShort holds P15.2 of all short lists of edges, by trying all numbers that come into question.
func TestGreatestAllShort(t *testing.T) {
	met, unmet := 0, 0
	for _, c := range []struct {
		n, most int
		reach   int64
	}{{1, 3, 2}, {2, 3, 2}, {3, 3, 1}, {3, 2, 2}} {
		allShort(c.n, c.most, c.reach, func(edges []api.Edge) {
			got, ok := Solve(c.n, edges)
			// No greatest number is further below 0 than one edge less than there are hosts can put it.
			best := byTrial(c.n, edges, c.reach*int64(c.n-1))
			if ok != (best != nil) || !slices.Equal(got, best) || ok && !bound.All(edges, got) {
				t.Errorf("%d, %v: %v, %v, want %v", c.n, edges, got, ok, best)
			}
			if ok {
				met++
			} else {
				unmet++
			}
		})
	}
	if met == 0 || unmet == 0 {
		t.Errorf("%d of the short lists can be met, %d can't", met, unmet)
	}
}

func TestLayersAllShort(t *testing.T) {
	allShort(2, 4, 1, func(edges []api.Edge) {
		offsets, by := toldLayers(2, edges)
		holdLayers(t, "all short", 2, edges, offsets, by)
	})
	allShort(3, 3, 1, func(edges []api.Edge) {
		offsets, by := toldLayers(3, edges)
		holdLayers(t, "all short", 3, edges, offsets, by)
	})
}

// drawn are edges of so many hosts: of any weights, or of weights about what some clocks ask for, so that many of them can be met.
func drawn(r *rand.Rand, n int) []api.Edge {
	reach := int64(1) << r.Intn(51)
	clocks := make([]int64, n)
	for host := range clocks {
		clocks[host] = r.Int63n(2*reach+1) - reach
	}
	edges := make([]api.Edge, r.Intn(4*n+1))
	wildly := r.Intn(4) == 0
	for i := range edges {
		from, to := r.Intn(n), r.Intn(n)
		weight := clocks[to] - clocks[from] + r.Int63n(min(reach, 4))
		if r.Intn(40*n) == 0 {
			weight--
		}
		if wildly {
			weight = r.Int63n(2*reach+1) - reach/2
		}
		edges[i] = edge(from, to, weight)
	}
	return edges
}

func TestDrawn(t *testing.T) {
	r := rand.New(rand.NewSource(15))
	met, unmet := 0, 0
	for range 3000 {
		n := 1 + r.Intn(6)
		if r.Intn(10) == 0 {
			n = 1 + r.Intn(api.MaxHosts)
		}
		if holdTold(t, "drawn", n, drawn(r, n)) {
			met++
		} else {
			unmet++
		}
	}
	if met < 300 || unmet < 300 {
		t.Errorf("%d of the lists drawn can be met, %d can't", met, unmet)
	}
}

func TestManyEdges(t *testing.T) {
	const n, most = api.MaxHosts, 20000
	edges := make([]api.Edge, most)
	for i := range edges {
		edges[i] = edge(i%n, (i*7+1)%n, int64(i))
	}
	edges = append(edges, edge(0, n-1, -5), edge(0, n-1, -5))
	want := make([]int64, n)
	want[n-1] = -5
	holdSolve(t, "many edges", n, edges, want...)
	if _, by := Layers(n, edges); by[1][n-1] != most {
		t.Errorf("many edges: by %d, want %d", by[1][n-1], most)
	}
	holdUnmet(t, "many edges, the last one too much", n, append(edges, edge(n-1, 0, 4)))
	holdMay(t, "many edges, the last one out of range", n, append(edges, edge(n, 0, 4)), false)
}

func TestArgumentsStayAsTheyAre(t *testing.T) {
	edges := list(edge(0, 1, -7), edge(1, 2, -2), edge(2, 0, 9), edge(0, 0, -1))
	kept := slices.Clone(edges)
	offsets, by := Layers(3, edges[:3])
	last, ok := Solve(3, edges[:3])
	if !May(3, edges[:3]) || !ok || !slices.Equal(edges, kept) {
		t.Error("what was handed in has changed")
	}
	clear(edges)
	wantOffsets := [][]int64{{0, 0, 0}, {0, -7, -2}, {0, -7, -9}, {0, -7, -9}}
	wantBy := [][]int{{-1, -1, -1}, {-1, 0, 1}, {-1, -1, 1}, {-1, -1, -1}}
	if !slices.EqualFunc(offsets, wantOffsets, slices.Equal) || !slices.EqualFunc(by, wantBy, slices.Equal) || !slices.Equal(last, wantOffsets[3]) {
		t.Errorf("writing into what was handed in changes the answer: %v, %v, %v", offsets, by, last)
	}
	clear(last)
	holdSolve(t, "written into", 3, kept[:3], wantOffsets[3]...)
	for number := range offsets {
		clear(offsets[number])
		clear(by[number])
		for other := number + 1; other < len(offsets); other++ {
			if !slices.Equal(offsets[other], wantOffsets[other]) || !slices.Equal(by[other], wantBy[other]) {
				t.Errorf("writing into layer %d changes layer %d", number, other)
			}
		}
		offsets[number] = append(offsets[number], 99)
		by[number] = append(by[number], 99)
	}
	holdLayers(t, "written into", 3, kept[:3], wantOffsets, wantBy)
}
