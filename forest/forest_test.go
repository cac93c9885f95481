package forest

import (
	"math"
	"math/rand"
	"runtime/debug"
	"slices"
	"testing"

	"merkhet/api"
	"merkhet/parent"
)

// item is a place, its depth and its parent.
func item(place, depth, parent int) api.Item {
	return api.Item{Place: place, Depth: depth, Parent: parent}
}

// holdRow tells where the row of parents isn't that which is wanted, and where the depth isn't the deepest of that.
func holdRow(t *testing.T, what string, parents []int, want ...api.Item) {
	t.Helper()
	got := Row(parents)
	if !slices.Equal(got, want) {
		t.Errorf("%s: %v, want %v", what, got, want)
	}
	holdAllOnce(t, parents, got)
	if got, want := Depth(parents), toldDepth(want); got != want {
		t.Errorf("%s: the depth is %d, want %d", what, got, want)
	}
}

// holdAllOnce holds P11.2: a row has each place once, behind its parent; that of parents that aren't right has none.
func holdAllOnce(t *testing.T, parents []int, row []api.Item) {
	t.Helper()
	want := len(parents)
	if !parent.Right(parents) {
		want = 0
	}
	if len(row) != want {
		t.Fatalf("%v: a row of %d, want %d", parents, len(row), want)
	}
	depths := map[int]int{-1: -1}
	for _, it := range row {
		if _, met := depths[it.Place]; met || it.Place < 0 || it.Place >= len(parents) {
			t.Fatalf("%v: %d is no place, or there twice", parents, it.Place)
		}
		above, met := depths[it.Parent]
		if !met || it.Parent != parents[it.Place] || it.Depth != above+1 {
			t.Fatalf("%v: %v isn't behind its parent, not its, or not one deeper", parents, it)
		}
		depths[it.Place] = it.Depth
	}
}

// toldDepth is the deepest depth of a row, told plainly.
func toldDepth(row []api.Item) int {
	if len(row) == 0 {
		return -1
	}
	return slices.MaxFunc(row, func(a, b api.Item) int { return a.Depth - b.Depth }).Depth
}

func TestRowExample(t *testing.T) {
	holdRow(t, "-1, 0, 0, 1", []int{-1, 0, 0, 1}, item(0, 0, -1), item(1, 1, 0), item(3, 2, 1), item(2, 1, 0))
}

func TestRowNone(t *testing.T) {
	holdRow(t, "nil", nil)
	holdRow(t, "empty", []int{})
}

func TestRowOrdinary(t *testing.T) {
	for _, c := range []struct {
		what    string
		parents []int
		want    []api.Item
	}{
		{"one alone", []int{-1}, []api.Item{item(0, 0, -1)}},
		{"roots alone", []int{-1, -1, -1}, []api.Item{item(0, 0, -1), item(1, 0, -1), item(2, 0, -1)}},
		{"a kid behind", []int{-1, 0}, []api.Item{item(0, 0, -1), item(1, 1, 0)}},
		{"a kid ahead", []int{1, -1}, []api.Item{item(1, 0, -1), item(0, 1, 1)}},
		{"a chain down", []int{-1, 0, 1, 2}, []api.Item{item(0, 0, -1), item(1, 1, 0), item(2, 2, 1), item(3, 3, 2)}},
		{"a chain up", []int{1, 2, 3, -1}, []api.Item{item(3, 0, -1), item(2, 1, 3), item(1, 2, 2), item(0, 3, 1)}},
		{"many kids", []int{2, 2, -1, 2, 2}, []api.Item{item(2, 0, -1), item(0, 1, 2), item(1, 1, 2), item(3, 1, 2), item(4, 1, 2)}},
		{"kids of kids are ahead of the next kid", []int{-1, 0, 0, 2, 1, 2, 1}, []api.Item{item(0, 0, -1), item(1, 1, 0), item(4, 2, 1), item(6, 2, 1), item(2, 1, 0), item(3, 2, 2), item(5, 2, 2)}},
		{"kids are ahead of the next root", []int{-1, -1, 0, 1, 0}, []api.Item{item(0, 0, -1), item(2, 1, 0), item(4, 1, 0), item(1, 0, -1), item(3, 1, 1)}},
		{"the last root has the least kids", []int{4, 3, 4, -1, -1}, []api.Item{item(3, 0, -1), item(1, 1, 3), item(4, 0, -1), item(0, 1, 4), item(2, 1, 4)}},
	} {
		holdRow(t, c.what, c.parents, c.want...)
	}
}

func TestRowWhereTheLargestStands(t *testing.T) {
	// The kid with the most places below it is the first one, one between, the last one; or two have as many.
	holdRow(t, "the first", []int{-1, 0, 0, 0, 1, 4, 3},
		item(0, 0, -1), item(1, 1, 0), item(4, 2, 1), item(5, 3, 4), item(2, 1, 0), item(3, 1, 0), item(6, 2, 3))
	holdRow(t, "one between", []int{-1, 0, 0, 0, 2, 4, 1},
		item(0, 0, -1), item(1, 1, 0), item(6, 2, 1), item(2, 1, 0), item(4, 2, 2), item(5, 3, 4), item(3, 1, 0))
	holdRow(t, "the last", []int{-1, 0, 0, 0, 3, 4, 1},
		item(0, 0, -1), item(1, 1, 0), item(6, 2, 1), item(2, 1, 0), item(3, 1, 0), item(4, 2, 3), item(5, 3, 4))
	holdRow(t, "two", []int{-1, 0, 0, 0, 1, 3},
		item(0, 0, -1), item(1, 1, 0), item(4, 2, 1), item(2, 1, 0), item(3, 1, 0), item(5, 2, 3))
	holdRow(t, "the deepest isn't the largest", []int{-1, 0, 0, 1, 3, 2, 2, 2},
		item(0, 0, -1), item(1, 1, 0), item(3, 2, 1), item(4, 3, 3), item(2, 1, 0), item(5, 2, 2), item(6, 2, 2), item(7, 2, 2))
	holdRow(t, "a root, ahead of others", []int{-1, 0, 1, -1, -1, 3},
		item(0, 0, -1), item(1, 1, 0), item(2, 2, 1), item(3, 0, -1), item(5, 1, 3), item(4, 0, -1))
}

func TestRowThatIsNotRight(t *testing.T) {
	for _, parents := range [][]int{
		// Cycles: alone, beside roots, and with places below them.
		{0}, {-1, 1}, {1, 0}, {1, 1}, {-1, 2, 1}, {1, 2, 0}, {1, 2, 3, 2}, {-1, 0, 1, 4, 3},
		// Out of range, at either end.
		{-2}, {1}, {-1, 2}, {-2, 0}, {-1, 0, 3}, {-1, 0, -2},
		// Both at once.
		{0, 2}, {1, 0, -2},
	} {
		holdRow(t, "not right", parents)
	}
	for _, p := range huge() {
		for place := range 3 {
			parents := []int{-1, -1, -1}
			parents[place] = p
			holdRow(t, "huge", parents)
		}
	}
}

// huge are numbers that are no places of three; also those of which the lower half would do.
func huge() []int {
	return []int{math.MinInt, math.MinInt + 1, math.MinInt32, -1 << 32, -3, -2, 3, math.MaxInt32, math.MaxUint32, 1 << 32, 1<<32 + 1, 1 << 62, math.MaxInt - 1, math.MaxInt}
}

// toldRow is what Row has to answer, told plainly: a place's way down from the roots, held against another one's, tells which stands first.
func toldRow(parents []int) []api.Item {
	if !parent.Right(parents) {
		return nil
	}
	var ways [][]int
	for place := range parents {
		var way []int
		for at := place; at != -1; at = parents[at] {
			way = slices.Insert(way, 0, at)
		}
		ways = append(ways, way)
	}
	slices.SortFunc(ways, slices.Compare)
	var out []api.Item
	for _, way := range ways {
		place := way[len(way)-1]
		out = append(out, item(place, len(way)-1, parents[place]))
	}
	return out
}

// holdAsTold holds all three calls of some parents against what is told plainly.
func holdAsTold(t *testing.T, parents []int) {
	t.Helper()
	want := toldRow(parents)
	row := Row(parents)
	if !slices.Equal(row, want) {
		t.Fatalf("%v: %v, want %v", parents, row, want)
	}
	holdAllOnce(t, parents, row)
	if got, want := Depth(parents), toldDepth(want); got != want {
		t.Fatalf("%v: the depth is %d, want %d", parents, got, want)
	}
	holdKidsAsRow(t, parents, row)
}

// holdKidsAsRow holds that of each place, and of none, the kids are those that the row has below it, rising.
func holdKidsAsRow(t *testing.T, parents []int, row []api.Item) {
	t.Helper()
	if len(row) == 0 {
		return
	}
	for place := -1; place < len(parents); place++ {
		var want []int
		for _, it := range row {
			if it.Parent == place {
				want = append(want, it.Place)
			}
		}
		if got := Kids(parents, place); !slices.Equal(got, want) || !slices.IsSorted(got) {
			t.Fatalf("%v: the kids of %d are %v, want %v", parents, place, got, want)
		}
	}
}

// TestAllShort holds each row of up to six numbers, from -2 to as many as there are.
func TestAllShort(t *testing.T) {
	for size := range 7 {
		right := 0
		each(size, size+3, func(picks []int) {
			parents := make([]int, size)
			for i, p := range picks {
				parents[i] = p - 2
			}
			holdAsTold(t, parents)
			if Depth(parents) >= 0 {
				right++
			}
		})
		// So many forests there are of so many places, by Cayley's rule; that of none has no depth.
		if want := []int{0, 1, 3, 16, 125, 1296, 16807}[size]; right != want {
			t.Errorf("of %d places %d have a depth, want %d", size, right, want)
		}
	}
}

// each hands on each row of so many numbers from 0 to ahead of most.
func each(size, most int, hold func(picks []int)) {
	picks := make([]int, size)
	for {
		hold(picks)
		at := 0
		for at < size && picks[at] == most-1 {
			picks[at] = 0
			at++
		}
		if at == size {
			return
		}
		picks[at]++
	}
}

// drawn are parents of so many places, in any order; each is below none, or below one of the near that were put ahead of it.
func drawn(r *rand.Rand, size, near int) []int {
	order := r.Perm(size)
	parents := make([]int, size)
	for i, place := range order {
		from := max(0, i-near)
		above := from + r.Intn(i-from+1)
		parents[place] = -1
		if above < i {
			parents[place] = order[above]
		}
	}
	return parents
}

func TestDrawn(t *testing.T) {
	r := rand.New(rand.NewSource(11))
	for range 1500 {
		size := r.Intn(60)
		for _, near := range []int{1, 2, 3, 8, 60} {
			parents := drawn(r, size, near)
			holdAsTold(t, parents)
			if size > 0 {
				parents[r.Intn(size)] = r.Intn(size+3) - 2
				holdAsTold(t, parents)
			}
		}
	}
}

// holdDeep holds the row and the depth of parents whose row is known, on a stack that long chains of calls would fill.
func holdDeep(t *testing.T, what string, parents []int, at func(i int) api.Item, depth int) {
	t.Helper()
	defer debug.SetMaxStack(debug.SetMaxStack(1 << 20))
	row := Row(parents)
	if len(row) != len(parents) {
		t.Fatalf("%s: a row of %d, want %d", what, len(row), len(parents))
	}
	for i, it := range row {
		if want := at(i); it != want {
			t.Fatalf("%s: %v, want %v", what, it, want)
		}
	}
	if got := Depth(parents); got != depth {
		t.Errorf("%s: the depth is %d, want %d", what, got, depth)
	}
}

func TestDeep(t *testing.T) {
	const size = 200001
	down, up, first, last, wide := make([]int, size), make([]int, size), make([]int, size), make([]int, size), make([]int, size)
	for i := range size {
		down[i], up[i] = i-1, i+1
		first[i], last[i] = i-2+i%2, max(i-3+i%2, 0)
		wide[i] = 0
	}
	up[size-1], wide[0], first[0], last[0] = -1, -1, -1, -1
	holdDeep(t, "down", down, func(i int) api.Item { return item(i, i, i-1) }, size-1)
	holdDeep(t, "up", up, func(i int) api.Item {
		if i == 0 {
			return item(size-1, 0, -1)
		}
		return item(size-1-i, i, size-i)
	}, size-1)
	holdDeep(t, "wide", wide, func(i int) api.Item { return item(i, min(i, 1), min(i, 1)-1) }, 1)
	holdCaterpillars(t, first, last, size)
}

// holdCaterpillars holds chains each place of which has a kid beside the chain, ahead of it or behind it.
func holdCaterpillars(t *testing.T, first, last []int, size int) {
	t.Helper()
	// Each even place has the odd one behind it and the even one behind that as kids.
	holdDeep(t, "a kid ahead", first, func(i int) api.Item {
		if i == 0 {
			return item(0, 0, -1)
		}
		return item(i, (i+1)/2, i-2+i%2)
	}, size/2)
	// Each odd place goes on with the chain; the even ones stand beside it, and come when all below is over.
	holdDeep(t, "a kid behind", last, func(i int) api.Item {
		chain := size/2 + 1
		switch {
		case i == 0:
			return item(0, 0, -1)
		case i < chain:
			return item(2*i-1, i, max(2*i-3, 0))
		}
		place := 2 * (size - i)
		return item(place, place/2, max(place-3, 0))
	}, size/2)
}

func TestRowLeavesItsArgument(t *testing.T) {
	parents := []int{-1, 0, 0, 1, 9}
	kept, want := slices.Clone(parents), []api.Item{item(0, 0, -1), item(1, 1, 0), item(3, 2, 1), item(2, 1, 0)}
	row := Row(parents[:4])
	if !slices.Equal(parents, kept) {
		t.Error("the parents that were handed in have changed")
	}
	clear(parents)
	if !slices.Equal(row, want) {
		t.Error("writing into what was handed in changes the answer")
	}
	clear(row)
	if again := Row(kept[:4]); !slices.Equal(again, want) {
		t.Error("writing into the answer changes the next one")
	}
}

// holdKids tells where the kids of a place aren't those that are wanted.
func holdKids(t *testing.T, parents []int, place int, want ...int) {
	t.Helper()
	if got := Kids(parents, place); !slices.Equal(got, want) {
		t.Errorf("%v: the kids of %d are %v, want %v", parents, place, got, want)
	}
}

func TestKidsOrdinary(t *testing.T) {
	forest := []int{-1, 0, 0, 1, -1, 0}
	holdKids(t, forest, -1, 0, 4)
	holdKids(t, forest, 0, 1, 2, 5)
	holdKids(t, forest, 1, 3)
	for place := 2; place < 6; place++ {
		holdKids(t, forest, place)
	}
	holdKids(t, []int{2, 2, -1, 2}, 2, 0, 1, 3)
	holdKids(t, []int{2, 2, -1, 2}, -1, 2)
}

func TestKidsNone(t *testing.T) {
	for _, place := range append(huge(), -1, 0, 1) {
		holdKids(t, nil, place)
		holdKids(t, []int{}, place)
	}
}

func TestKidsOfAnyParents(t *testing.T) {
	// Cycles, and one that is its own parent.
	holdKids(t, []int{0}, 0, 0)
	holdKids(t, []int{0}, -1)
	holdKids(t, []int{1, 0, 1}, 1, 0, 2)
	holdKids(t, []int{1, 0, 1}, 0, 1)
	holdKids(t, []int{1, 1}, 1, 0, 1)
	// Parents that are no places: those of all others are told as ever.
	holdKids(t, []int{3, 3, -1, 9, 3}, 3, 0, 1, 4)
	holdKids(t, []int{3, 3, -1, 9, 3}, -1, 2)
	holdKids(t, []int{3, -1, -1}, -1, 1, 2)
	holdKids(t, []int{-2, -1, 5, 0}, -1, 1)
	holdKids(t, []int{-2, -1, 5, 0}, 0, 3)
}

func TestKidsOfNoPlace(t *testing.T) {
	for _, p := range huge() {
		holdKids(t, []int{-1, 0, 0}, p)
		// Whoever has the number for its parent is told, whether it is a place or not.
		holdKids(t, []int{p, -1, 0, p}, p, 0, 3)
		holdKids(t, []int{p, -1, 0, p}, -1, 1)
	}
}

func TestKidsLeaveTheirArgument(t *testing.T) {
	parents := []int{-1, 0, 0, 1, 0}
	kept, want := slices.Clone(parents), []int{1, 2}
	kids := Kids(parents[:4], 0)
	if !slices.Equal(parents, kept) {
		t.Error("the parents that were handed in have changed")
	}
	clear(parents)
	if !slices.Equal(kids, want) {
		t.Error("writing into what was handed in changes the answer")
	}
	clear(kids)
	if again := Kids(kept[:4], 0); !slices.Equal(again, want) {
		t.Error("writing into the answer changes the next one")
	}
}

func TestDepthLeavesItsArgument(t *testing.T) {
	for _, parents := range [][]int{{-1, 0, 0, 2}, {1, 2, 0}, {-1, 9}} {
		kept := slices.Clone(parents)
		first := Depth(parents)
		if !slices.Equal(parents, kept) {
			t.Errorf("%v was handed in, and is %v", kept, parents)
		}
		if Depth(parents) != first {
			t.Errorf("%v: another answer at the second time", kept)
		}
	}
}
