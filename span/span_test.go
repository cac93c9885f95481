package span

import (
	"math"
	"slices"
	"strings"
	"testing"

	"merkhet/api"
)

func good() api.Span {
	return api.Span{Trace: 1, ID: 2, Parent: 3, Kind: api.Client, Host: "h", Name: "n", Start: 5, Dur: 7}
}

func TestNameLengths(t *testing.T) {
	for _, size := range []int{0, 1, 2, 15, 16, 17, 18, 256, 257, 1 << 16} {
		want := 1 <= size && size <= 16
		if got := Name(strings.Repeat("a", size)); got != want {
			t.Errorf("a name of %d bytes: %v, want %v", size, got, want)
		}
	}
}

func TestNameOfBytesNotLetters(t *testing.T) {
	// Among them texts of at most 16 letters that have more bytes, and letters that look like those of names.
	for _, s := range []string{"é", strings.Repeat("é", 9), "ａ", "\u0430", "\u0661", "a\x00", "\x00a", "\xff", "a\xc3"} {
		if Name(s) {
			t.Errorf("%q is a name", s)
		}
	}
}

func TestNameBytes(t *testing.T) {
	const may = "abcdefghijklmnopqrstuvwxyz0123456789-._"
	for b := range 256 {
		c := string([]byte{byte(b)})
		want := strings.Contains(may, c)
		for _, s := range []string{c, c + "a", "a" + c, "a" + c + "a", strings.Repeat("a", 15) + c, c + strings.Repeat("a", 15)} {
			if Name(s) != want {
				t.Errorf("%q: %v, want %v", s, !want, want)
			}
		}
	}
}

func TestNameExamples(t *testing.T) {
	if !Name("a.b-1_") {
		t.Error("a.b-1_ is none")
	}
	if Name("A") {
		t.Error("A is one")
	}
}

// bent is a good span with one thing changed.
type bent struct {
	what string
	bend func(s *api.Span)
	may  bool
}

func bents() []bent {
	return []bent{
		{"as it is", func(s *api.Span) {}, true},
		{"trace 0", func(s *api.Span) { s.Trace = 0 }, false},
		{"trace 2", func(s *api.Span) { s.Trace = 2 }, true},
		{"trace greatest", func(s *api.Span) { s.Trace = math.MaxUint64 }, true},
		{"id 0", func(s *api.Span) { s.ID = 0 }, false},
		{"id 1", func(s *api.Span) { s.ID = 1 }, true},
		{"id of its trace", func(s *api.Span) { s.ID = s.Trace }, true},
		{"id greatest", func(s *api.Span) { s.ID = math.MaxUint64 }, true},
		{"parent none", func(s *api.Span) { s.Parent = 0 }, true},
		{"parent ahead of its id", func(s *api.Span) { s.Parent = s.ID - 1 }, true},
		{"parent its id", func(s *api.Span) { s.Parent = s.ID }, false},
		{"parent behind its id", func(s *api.Span) { s.Parent = s.ID + 1 }, true},
		{"parent greatest", func(s *api.Span) { s.Parent = math.MaxUint64 }, true},
		{"id and parent greatest", func(s *api.Span) { s.ID, s.Parent = math.MaxUint64, math.MaxUint64 }, false},
		{"id and parent 0", func(s *api.Span) { s.ID, s.Parent = 0, 0 }, false},
		{"id and parent alike in their low bits", func(s *api.Span) { s.Parent = s.ID + 1<<32 }, true},
		{"inside", func(s *api.Span) { s.Kind = api.Inside }, true},
		{"client", func(s *api.Span) { s.Kind = api.Client }, true},
		{"server", func(s *api.Span) { s.Kind = api.Server }, true},
		{"kind 3", func(s *api.Span) { s.Kind = 3 }, false},
		{"kind 4", func(s *api.Span) { s.Kind = 4 }, false},
		{"kind 128", func(s *api.Span) { s.Kind = 128 }, false},
		{"kind 255", func(s *api.Span) { s.Kind = 255 }, false},
		{"host empty", func(s *api.Span) { s.Host = "" }, false},
		{"host of 16", func(s *api.Span) { s.Host = strings.Repeat("h", 16) }, true},
		{"host of 17", func(s *api.Span) { s.Host = strings.Repeat("h", 17) }, false},
		{"host no name", func(s *api.Span) { s.Host = "H" }, false},
		{"name empty", func(s *api.Span) { s.Name = "" }, false},
		{"name of 16", func(s *api.Span) { s.Name = strings.Repeat("n", 16) }, true},
		{"name of 17", func(s *api.Span) { s.Name = strings.Repeat("n", 17) }, false},
		{"name no name", func(s *api.Span) { s.Name = "n n" }, false},
		{"start lowest", func(s *api.Span) { s.Start = math.MinInt64 }, false},
		{"start -1", func(s *api.Span) { s.Start = -1 }, false},
		{"start 0", func(s *api.Span) { s.Start = 0 }, true},
		{"start last", func(s *api.Span) { s.Start = 1<<50 - 1 }, true},
		{"start too far", func(s *api.Span) { s.Start = 1 << 50 }, false},
		{"start further", func(s *api.Span) { s.Start = 1<<50 + 1 }, false},
		{"start greatest", func(s *api.Span) { s.Start = math.MaxInt64 }, false},
		{"dur lowest", func(s *api.Span) { s.Dur = math.MinInt64 }, false},
		{"dur -1", func(s *api.Span) { s.Dur = -1 }, false},
		{"dur 0", func(s *api.Span) { s.Dur = 0 }, true},
		{"dur less than longest", func(s *api.Span) { s.Dur = 1<<50 - 1 }, true},
		{"dur longest", func(s *api.Span) { s.Dur = 1 << 50 }, true},
		{"dur too long", func(s *api.Span) { s.Dur = 1<<50 + 1 }, false},
		{"dur greatest", func(s *api.Span) { s.Dur = math.MaxInt64 }, false},
		{"last start, longest dur", func(s *api.Span) { s.Start, s.Dur = 1<<50-1, 1<<50 }, true},
		{"sum fits, parts don't", func(s *api.Span) { s.Start, s.Dur = -1, 2 }, false},
		{"zero", func(s *api.Span) { *s = api.Span{} }, false},
	}
}

func TestMay(t *testing.T) {
	for _, b := range bents() {
		s := good()
		b.bend(&s)
		if May(s) != b.may {
			t.Errorf("%s: %v, want %v", b.what, !b.may, b.may)
		}
	}
}

func TestEnd(t *testing.T) {
	for _, b := range bents() {
		s := good()
		b.bend(&s)
		want := int64(0)
		if b.may {
			want = s.Start + s.Dur
		}
		if end, ok := End(s); end != want || ok != b.may {
			t.Errorf("%s: %d %v, want %d %v", b.what, end, ok, want, b.may)
		}
	}
}

func TestEndNumbers(t *testing.T) {
	for _, c := range []struct{ start, dur, end int64 }{
		{0, 0, 0}, {0, 1, 1}, {1, 0, 1}, {5, 7, 12}, {0, 1 << 50, 1 << 50}, {1<<50 - 1, 0, 1<<50 - 1}, {1<<50 - 1, 1 << 50, 1<<51 - 1},
	} {
		s := good()
		s.Start, s.Dur = c.start, c.dur
		if end, ok := End(s); end != c.end || !ok {
			t.Errorf("%d and %d: %d %v, want %d", c.start, c.dur, end, ok, c.end)
		}
	}
}

// holdOrder tells where spans that are written down in order aren't held to be so.
func holdOrder(t *testing.T, what string, l []api.Span) {
	t.Helper()
	for i, a := range l {
		for k, b := range l {
			want := 0
			if i < k {
				want = -1
			} else if i > k {
				want = 1
			}
			if got := Cmp(a, b); got != want {
				t.Errorf("%s: %d and %d: %d, want %d", what, i, k, got, want)
			}
		}
	}
}

// rising is a span many times, with one field risen from each to the next.
func rising[T any](values []T, set func(s *api.Span, v T)) []api.Span {
	var l []api.Span
	for _, v := range values {
		s := good()
		set(&s, v)
		l = append(l, s)
	}
	return l
}

func TestCmpOneFieldAlone(t *testing.T) {
	signed := []int64{math.MinInt64, math.MinInt64 + 1, -1 << 32, -1, 0, 1, 2, 1 << 31, 1 << 32, 1 << 50, math.MaxInt64 - 1, math.MaxInt64}
	unsigned := []uint64{0, 1, 2, 1 << 31, 1 << 32, 1<<53 + 1, 1<<63 - 1, 1 << 63, math.MaxUint64 - 1, math.MaxUint64}
	texts := []string{"", "\x00", "\x00\x00", "-", ".", "0", "9", "A", "Z", "Za", "_", "a", "a\x00", "aA", "aa", "aaa", "ab", "b", "z", "za", "é", "\xff", "\xff\xff"}
	holdOrder(t, "start", rising(signed, func(s *api.Span, v int64) { s.Start = v }))
	holdOrder(t, "id", rising(unsigned, func(s *api.Span, v uint64) { s.ID = v }))
	holdOrder(t, "parent", rising(unsigned, func(s *api.Span, v uint64) { s.Parent = v }))
	holdOrder(t, "kind", rising([]uint8{0, 1, 2, 3, 127, 128, 255}, func(s *api.Span, v uint8) { s.Kind = v }))
	holdOrder(t, "dur", rising(signed, func(s *api.Span, v int64) { s.Dur = v }))
	holdOrder(t, "host", rising(texts, func(s *api.Span, v string) { s.Host = v }))
	holdOrder(t, "name", rising(texts, func(s *api.Span, v string) { s.Name = v }))
	holdOrder(t, "trace", rising(unsigned, func(s *api.Span, v uint64) { s.Trace = v }))
}

// raises raise one field each, in the order of fields.
func raises() []func(s *api.Span) {
	return []func(s *api.Span){
		func(s *api.Span) { s.Start++ },
		func(s *api.Span) { s.ID++ },
		func(s *api.Span) { s.Parent++ },
		func(s *api.Span) { s.Kind++ },
		func(s *api.Span) { s.Dur++ },
		func(s *api.Span) { s.Host += "a" },
		func(s *api.Span) { s.Name += "a" },
		func(s *api.Span) { s.Trace++ },
	}
}

func TestCmpEarlierFieldTells(t *testing.T) {
	all := raises()
	for i, first := range all {
		ahead, behind := good(), good()
		first(&behind)
		for _, later := range all[i+1:] {
			later(&ahead)
		}
		if Cmp(ahead, behind) != -1 || Cmp(behind, ahead) != 1 {
			t.Errorf("field %d doesn't tell ahead of all later ones: %d %d", i, Cmp(ahead, behind), Cmp(behind, ahead))
		}
		for k, later := range all[i+1:] {
			ahead := good()
			later(&ahead)
			if Cmp(ahead, behind) != -1 || Cmp(behind, ahead) != 1 {
				t.Errorf("field %d doesn't tell ahead of field %d", i, i+1+k)
			}
		}
	}
}

func TestCmpSame(t *testing.T) {
	for _, s := range []api.Span{{}, good(), {Start: math.MinInt64, Dur: math.MaxInt64, Kind: 255, Host: "\xff"}} {
		same := s
		same.Host = strings.Clone(s.Host)
		if Cmp(s, same) != 0 {
			t.Errorf("%v isn't the same as itself", s)
		}
	}
}

func TestCmpExample(t *testing.T) {
	five, six := good(), good()
	five.Start, six.Start = 5, 6
	if Cmp(five, six) != -1 || Cmp(six, five) != 1 {
		t.Error("5 isn't ahead of 6")
	}
}

// mixed are spans out of order, some of them twice, some that may not be.
func mixed() []api.Span {
	var l []api.Span
	for i := range 200 {
		s := good()
		s.Start = int64(i * 7 % 5)
		s.ID = uint64(i * 11 % 3)
		s.Kind = uint8(i * 13 % 4)
		s.Dur = int64(i*17%3) - 1
		s.Name = strings.Repeat("n", i*19%3)
		l = append(l, s)
	}
	return l
}

func TestSort(t *testing.T) {
	in := mixed()
	out := Sort(in)
	if len(out) != len(in) {
		t.Fatalf("%d of %d", len(out), len(in))
	}
	for i := range len(out) - 1 {
		if Cmp(out[i], out[i+1]) > 0 {
			t.Errorf("%d stands behind the next one", i)
		}
	}
	count := map[api.Span]int{}
	for i := range in {
		count[in[i]]++
		count[out[i]]--
	}
	for s, n := range count {
		if n != 0 {
			t.Errorf("%v: %d lost", s, n)
		}
	}
}

func TestSortFewInEachOrder(t *testing.T) {
	a, b, c := good(), good(), good()
	b.Name, c.Start = "nn", 6
	want := []api.Span{a, b, b, c}
	for _, in := range [][]api.Span{{a, b, b, c}, {c, b, b, a}, {b, c, a, b}, {b, b, c, a}, {c, a, b, b}, {b, a, c, b}} {
		if got := Sort(in); !slices.Equal(got, want) {
			t.Errorf("%v: %v", in, got)
		}
	}
	if got := Sort([]api.Span{c}); !slices.Equal(got, []api.Span{c}) {
		t.Error(got)
	}
}

func TestSortOfNone(t *testing.T) {
	if got := Sort(nil); len(got) != 0 {
		t.Error(got)
	}
	if got := Sort([]api.Span{}); len(got) != 0 {
		t.Error(got)
	}
	in := mixed()
	kept := slices.Clone(in)
	grown := append(Sort(in[:0]), api.Span{ID: 9})
	grown[0].Dur = 9
	if !slices.Equal(in, kept) {
		t.Error("what is put behind an answer of none stands in what was handed in")
	}
}

func TestSortLeavesItsArgument(t *testing.T) {
	in := mixed()
	kept := slices.Clone(in)
	out := Sort(in[:100])
	if !slices.Equal(in, kept) {
		t.Error("the list that was handed in has changed")
	}
	for i := range out {
		out[i] = api.Span{}
	}
	_ = append(out, api.Span{})
	if !slices.Equal(in, kept) {
		t.Error("writing into the answer changes what was handed in")
	}
	out = Sort(kept)
	want := slices.Clone(out)
	clear(kept)
	if !slices.Equal(out, want) {
		t.Error("writing into what was handed in changes the answer")
	}
	ordered := slices.Clone(want)
	again := Sort(ordered)
	again[0].Start = -9
	if !slices.Equal(ordered, want) {
		t.Error("a list in order is answered itself")
	}
}
