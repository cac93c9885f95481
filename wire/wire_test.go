package wire

import (
	"bytes"
	"encoding/binary"
	"math"
	"math/rand"
	"slices"
	"strings"
	"testing"

	"merkhet/api"
	"merkhet/span"
)

func good() api.Span {
	return api.Span{Trace: 0x0102030405060708, ID: 2, Parent: 3, Kind: api.Client, Host: "host-1", Name: "get", Start: 5, Dur: 7}
}

// many are so many spans that may be, no two alike.
func many(count int) []api.Span {
	var l []api.Span
	for i := range count {
		s := good()
		s.ID = uint64(i + 4)
		s.Kind = uint8(i % 3)
		s.Start = int64(count - i)
		s.Name = strings.Repeat("n", 1+i%16)
		l = append(l, s)
	}
	return l
}

// edges are spans that may be, each with something as far as it goes.
func edges() []api.Span {
	var l []api.Span
	for _, bend := range []func(s *api.Span){
		func(s *api.Span) {},
		func(s *api.Span) { s.Trace = 1 },
		func(s *api.Span) { s.Trace = math.MaxUint64 },
		func(s *api.Span) { s.ID = 1 },
		func(s *api.Span) { s.ID = math.MaxUint64 },
		func(s *api.Span) { s.ID = 1 << 63 },
		func(s *api.Span) { s.Parent = 0 },
		func(s *api.Span) { s.Parent = math.MaxUint64 },
		func(s *api.Span) { s.Kind = api.Inside },
		func(s *api.Span) { s.Kind = api.Server },
		func(s *api.Span) { s.Start = 0 },
		func(s *api.Span) { s.Start = 1<<50 - 1 },
		func(s *api.Span) { s.Dur = 0 },
		func(s *api.Span) { s.Dur = 1 << 50 },
		func(s *api.Span) { s.Start, s.Dur = 1<<50-1, 1<<50 },
		func(s *api.Span) { s.Host = "a" },
		func(s *api.Span) { s.Host = "0123456789-._abz" },
		func(s *api.Span) { s.Name = "_" },
		func(s *api.Span) { s.Name = strings.Repeat("z", 16) },
	} {
		s := good()
		bend(&s)
		l = append(l, s)
	}
	return l
}

// wrongs are spans that may not be.
func wrongs() map[string]api.Span {
	m := map[string]api.Span{"zero": {}}
	for what, bend := range map[string]func(s *api.Span){
		"trace 0":         func(s *api.Span) { s.Trace = 0 },
		"id 0":            func(s *api.Span) { s.ID = 0 },
		"its own parent":  func(s *api.Span) { s.Parent = s.ID },
		"kind 3":          func(s *api.Span) { s.Kind = 3 },
		"kind 255":        func(s *api.Span) { s.Kind = 255 },
		"start -1":        func(s *api.Span) { s.Start = -1 },
		"start lowest":    func(s *api.Span) { s.Start = math.MinInt64 },
		"start too far":   func(s *api.Span) { s.Start = 1 << 50 },
		"dur -1":          func(s *api.Span) { s.Dur = -1 },
		"dur too long":    func(s *api.Span) { s.Dur = 1<<50 + 1 },
		"host empty":      func(s *api.Span) { s.Host = "" },
		"host no name":    func(s *api.Span) { s.Host = "Host" },
		"name empty":      func(s *api.Span) { s.Name = "" },
		"name no name":    func(s *api.Span) { s.Name = "a b" },
		"name of 0 bytes": func(s *api.Span) { s.Name = "\x00" },
	} {
		s := good()
		bend(&s)
		m[what] = s
	}
	return m
}

// laid are a batch's bytes as the chapter tells them, whether it may be or not, but for texts above 16.
func laid(l []api.Span) []byte {
	b := binary.LittleEndian.AppendUint16([]byte("SPAN"), uint16(len(l)))
	for _, s := range l {
		for _, n := range []uint64{s.Trace, s.ID, s.Parent} {
			b = binary.LittleEndian.AppendUint64(b, n)
		}
		b = append(b, s.Kind)
		b = binary.LittleEndian.AppendUint64(b, uint64(s.Start))
		b = binary.LittleEndian.AppendUint64(b, uint64(s.Dur))
		for _, text := range []string{s.Host, s.Name} {
			b = append(b, byte(len(text)))
			b = append(b, text+strings.Repeat("\x00", 16-len(text))...)
		}
	}
	return b
}

// holdPut tells where Put doesn't answer what the chapter says.
func holdPut(t *testing.T, what string, l []api.Span, want []byte, wantE api.Errno) {
	t.Helper()
	if b, e := Put(l); e != wantE || !bytes.Equal(b, want) {
		t.Errorf("%s: %v %v, want %v %v", what, e, b, wantE, want)
	}
}

// holdGet tells where Get doesn't answer what the chapter says.
func holdGet(t *testing.T, what string, b []byte, want []api.Span, wantE api.Errno) {
	t.Helper()
	if l, e := Get(b); e != wantE || !slices.Equal(l, want) {
		t.Errorf("%s: %v %v, want %v %v", what, e, l, wantE, want)
	}
}

func TestExample(t *testing.T) {
	b, e := Put([]api.Span{good()})
	if e != api.OK || len(b) != 81 || string(b[:6]) != "SPAN\x01\x00" {
		t.Error(e, b)
	}
}

func TestPut(t *testing.T) {
	for _, s := range edges() {
		holdPut(t, "one", []api.Span{s}, laid([]api.Span{s}), api.OK)
	}
	holdPut(t, "edges", edges(), laid(edges()), api.OK)
	s := good()
	holdPut(t, "the same twice", []api.Span{s, s}, laid([]api.Span{s, s}), api.OK)
}

func TestPutHowMany(t *testing.T) {
	for count := range 70 {
		l := many(count)
		if 1 <= count && count <= 32 {
			holdPut(t, "many", l, laid(l), api.OK)
			continue
		}
		holdPut(t, "too few or too many", l, nil, api.ErrArg)
	}
	holdPut(t, "nil", nil, nil, api.ErrArg)
	for _, count := range []int{256, 257, 1<<16 + 1} {
		holdPut(t, "as if 0 or 1", many(count), nil, api.ErrArg)
	}
}

func TestPutWhatMayNotBe(t *testing.T) {
	long := good()
	long.Name = strings.Repeat("n", 17)
	wrong := wrongs()
	wrong["name of 17"] = long
	for what, s := range wrong {
		holdPut(t, what, []api.Span{s}, nil, api.ErrArg)
		for at := range 32 {
			l := many(32)
			l[at] = s
			holdPut(t, what+" among others", l, nil, api.ErrArg)
		}
	}
}

func TestGet(t *testing.T) {
	for _, s := range edges() {
		holdGet(t, "one", laid([]api.Span{s}), []api.Span{s}, api.OK)
	}
	holdGet(t, "edges", laid(edges()), edges(), api.OK)
	for count := 1; count <= 32; count++ {
		holdGet(t, "many", laid(many(count)), many(count), api.OK)
	}
}

func TestGetFewBytes(t *testing.T) {
	holdGet(t, "nil", nil, nil, api.ErrShort)
	for size := range 6 {
		holdGet(t, "letters", []byte("SPAN\x01\x00")[:size], nil, api.ErrShort)
		holdGet(t, "other letters", []byte("XXXXXX")[:size], nil, api.ErrShort)
		holdGet(t, "zeros", make([]byte, size), nil, api.ErrShort)
	}
	for _, count := range []int{1, 2, 32} {
		b := laid(many(count))
		for size := range b {
			holdGet(t, "not all there", b[:size], nil, api.ErrShort)
		}
	}
}

func TestGetReadsNoSpareRoom(t *testing.T) {
	b := laid(many(1))
	holdGet(t, "room behind", b[:80], nil, api.ErrShort)
	holdGet(t, "all room", b[:0], nil, api.ErrShort)
}

func TestGetOtherLetters(t *testing.T) {
	whole := laid(many(1))
	for at := range 4 {
		for c := range 256 {
			b := slices.Clone(whole)
			b[at] = byte(c)
			if b[at] != whole[at] {
				holdGet(t, "other letters", b, nil, api.ErrForm)
				holdGet(t, "other letters alone", b[:6], nil, api.ErrForm)
			}
		}
	}
}

func TestGetHowMany(t *testing.T) {
	for told := range 1 << 16 {
		b := laid(many(1))
		binary.LittleEndian.PutUint16(b[4:], uint16(told))
		switch {
		case told == 0 || told > 32:
			holdGet(t, "none or too many", b, nil, api.ErrForm)
			holdGet(t, "none or too many, short", b[:6], nil, api.ErrForm)
		case told > 1:
			holdGet(t, "more than there are", b, nil, api.ErrShort)
		}
	}
	b := laid(many(33))
	holdGet(t, "33, all there", b, nil, api.ErrForm)
}

func TestGetMoreBytes(t *testing.T) {
	for count := 1; count <= 32; count++ {
		b := laid(many(count))
		for _, more := range []int{1, 2, 74, 75, 76, 1000} {
			for _, fill := range []byte{0, 'a'} {
				holdGet(t, "more bytes", append(slices.Clone(b), bytes.Repeat([]byte{fill}, more)...), nil, api.ErrForm)
			}
		}
	}
	b := laid(many(2))
	b[4] = 1
	holdGet(t, "a span more than told", b, nil, api.ErrForm)
}

// spoiled are a batch's bytes with one of them changed.
func spoiled(l []api.Span, at int, to byte) []byte {
	b := laid(l)
	b[at] = to
	return b
}

func TestGetNoFields(t *testing.T) {
	l := many(3)
	for i := range l {
		for _, field := range []int{6 + 75*i + 41, 6 + 75*i + 58} {
			for _, size := range []byte{17, 18, 128, 255} {
				holdGet(t, "a length above 16", spoiled(l, field, size), nil, api.ErrForm)
			}
			holdGet(t, "a length above its text's", spoiled(l, field+16, 1), nil, api.ErrForm)
			holdGet(t, "no letters behind their length", spoiled(l, field, 0), nil, api.ErrForm)
		}
	}
}

func TestGetWhatMayNotBe(t *testing.T) {
	for what, s := range wrongs() {
		holdGet(t, what, laid([]api.Span{s}), nil, api.ErrRange)
		for _, at := range []int{0, 1, 31} {
			l := many(32)
			l[at] = s
			holdGet(t, what+" among others", laid(l), nil, api.ErrRange)
		}
	}
}

func TestGetFormAheadOfRange(t *testing.T) {
	for what, s := range wrongs() {
		for _, field := range []int{6 + 41, 6 + 58} {
			holdGet(t, what+" and no field", spoiled([]api.Span{s}, field, 17), nil, api.ErrForm)
		}
	}
}

func TestGetSpanBySpan(t *testing.T) {
	for what, s := range wrongs() {
		l := []api.Span{good(), s, good(), good()}
		holdGet(t, what+" ahead of no field", spoiled(l, 6+75*2+41, 17), nil, api.ErrRange)
		holdGet(t, what+" behind no field", spoiled(l, 6+58, 17), nil, api.ErrForm)
	}
}

// TestOneWay changes each byte of a batch: what is read still must have just those bytes.
func TestOneWay(t *testing.T) {
	r := rand.New(rand.NewSource(4))
	read, refused := 0, 0
	l := edges()[10:15]
	for at := range laid(l) {
		for range 30 {
			b := spoiled(l, at, byte(r.Intn(256)))
			got, e := Get(b)
			if e != api.OK {
				refused++
				continue
			}
			read++
			if again, e := Put(got); e != api.OK || !bytes.Equal(again, b) {
				t.Errorf("read from other bytes than its own: %v %v, %v", e, again, b)
			}
		}
	}
	if read == 0 || refused == 0 {
		t.Errorf("%d read, %d refused: this holds nothing", read, refused)
	}
}

func TestThereAndBack(t *testing.T) {
	r := rand.New(rand.NewSource(5))
	for range 300 {
		var l []api.Span
		for range 1 + r.Intn(32) {
			l = append(l, drawn(r))
		}
		b, e := Put(l)
		if e != api.OK || len(b) != 6+75*len(l) {
			t.Fatal(e, len(b), l)
		}
		holdGet(t, "drawn", b, l, api.OK)
	}
}

// drawn is a span that may be.
func drawn(r *rand.Rand) api.Span {
	const may = "abcdefghijklmnopqrstuvwxyz0123456789-._"
	text := func() string {
		var b []byte
		for range 1 + r.Intn(16) {
			b = append(b, may[r.Intn(len(may))])
		}
		return string(b)
	}
	for {
		s := api.Span{Trace: r.Uint64(), ID: r.Uint64(), Parent: r.Uint64(), Kind: uint8(r.Intn(3)), Host: text(), Name: text(), Start: r.Int63n(1 << 50), Dur: r.Int63n(1<<50 + 1)}
		if span.May(s) {
			return s
		}
	}
}

func TestNothingIsChangedOrKept(t *testing.T) {
	l := many(5)
	room := many(5)[:3]
	b, _ := Put(room)
	if !slices.Equal(room[:5], l) {
		t.Error("the batch that was handed in has changed, or its spare room")
	}
	clear(room)
	if !bytes.Equal(b, laid(l[:3])) {
		t.Error("writing into the batch changes its bytes")
	}
	kept := slices.Clone(b)
	got, _ := Get(b)
	if !bytes.Equal(b, kept) {
		t.Error("the bytes that were read have changed")
	}
	clear(b)
	if !slices.Equal(got, l[:3]) {
		t.Error("writing into the bytes that were read changes the batch")
	}
	again, _ := Get(kept)
	clear(again)
	if !bytes.Equal(kept, laid(l[:3])) {
		t.Error("writing into what was answered changes the bytes that were read")
	}
}
