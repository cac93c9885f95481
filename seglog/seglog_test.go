package seglog

import (
	"bytes"
	"encoding/binary"
	"fmt"
	"hash/crc32"
	"maps"
	"math"
	"slices"
	"testing"

	"merkhet/api"
	"merkhet/simfs"
	"merkhet/wire"
)

const (
	maxKeep  = 16
	maxRoom  = 32
	headSize = 14
	// free is a number from which on no test has files.
	free = 1 << 20
)

// batchOf are the bytes of a batch of so many spans, which tell what number it was.
func batchOf(number, spans int) []byte {
	var l []api.Span
	for i := range spans {
		l = append(l, api.Span{Trace: uint64(number + 1), ID: uint64(i + 1), Host: "host", Name: "get", Start: int64(i), Dur: 1})
	}
	b, e := wire.Put(l)
	if e != api.OK {
		panic("the test's own batch may not be")
	}
	return b
}

// batches are those from one number on up to another one: small ones, no two alike.
func batches(from, to int) [][]byte {
	var l [][]byte
	for i := from; i < to; i++ {
		l = append(l, batchOf(i, 1))
	}
	return l
}

// headThatTells is a head with the sum that is right for it, laid by the library: its letters and its keep may be wrong ones.
func headThatTells(letters string, number uint32, keep int) []byte {
	told := binary.LittleEndian.AppendUint32([]byte(letters), number)
	told = binary.LittleEndian.AppendUint16(told, uint16(keep))
	return binary.LittleEndian.AppendUint32(told, crc32.ChecksumIEEE(told))
}

func headOf(number uint32, keep int) []byte {
	return headThatTells("SEG1", number, keep)
}

// frameOf is the frame of any bytes, laid by the library: they may be no batch.
func frameOf(body []byte) []byte {
	told := binary.LittleEndian.AppendUint16(nil, uint16(len(body)))
	sum := crc32.ChecksumIEEE(slices.Concat(told, body))
	return slices.Concat(told, binary.LittleEndian.AppendUint32(nil, sum), body)
}

// fileOf are the bytes of a segment's file.
func fileOf(number uint32, keep int, bodies [][]byte, behind ...[]byte) []byte {
	b := headOf(number, keep)
	for _, body := range bodies {
		b = append(b, frameOf(body)...)
	}
	return append(b, slices.Concat(behind...)...)
}

// files are what a test lays on a file system, by number.
type files map[uint32][]byte

// made is a file system with files that aren't safe.
func made(t *testing.T, fs files) *simfs.FS {
	t.Helper()
	f := simfs.New()
	for _, n := range slices.Sorted(maps.Keys(fs)) {
		if f.Create(n) != api.OK || f.Append(n, fs[n]) != api.OK {
			t.Fatal("the test's own files can't be made")
		}
	}
	return f
}

// madeSafe is a file system with files that are safe.
func madeSafe(t *testing.T, fs files) *simfs.FS {
	t.Helper()
	f := made(t, fs)
	for n := range fs {
		if f.Sync(n) != api.OK {
			t.Fatal("the test's own files can't be synced")
		}
	}
	return f
}

// opened is the log on a file system, without an act.
func opened(t *testing.T, f *simfs.FS, keep, room int) *Log {
	t.Helper()
	l, e := Open(f, keep, room)
	if e != api.OK {
		t.Fatalf("open: error %d", e)
	}
	return l
}

// appended is a log behind so many batches, on a new file system.
func appended(t *testing.T, keep, room, count int) (*simfs.FS, *Log) {
	t.Helper()
	f := simfs.New()
	l := opened(t, f, keep, room)
	for _, b := range batches(0, count) {
		holdError(t, "append", l.Append(b), api.OK)
	}
	return f, l
}

func holdError(t *testing.T, what string, e, want api.Errno) {
	t.Helper()
	if e != want {
		t.Errorf("%s: error %d, want %d", what, e, want)
	}
}

// holdLog tells where a log hasn't just these bodies and so many segments, or is over.
func holdLog(t *testing.T, what string, l *Log, bodies [][]byte, segs int) {
	t.Helper()
	if got := l.Bodies(); !slices.EqualFunc(got, bodies, bytes.Equal) || l.Segs() != segs || l.Over() {
		t.Errorf("%s: %d bodies in %d segments, over %v; want %d in %d", what, len(got), l.Segs(), l.Over(), len(bodies), segs)
	}
}

// there are the files that are there, and their bytes.
func there(f *simfs.FS) map[uint32]string {
	m := map[uint32]string{}
	for _, n := range f.List() {
		b, _ := f.Read(n)
		m[n] = string(b)
	}
	return m
}

// safe are the files that are safe: what a crash leaves that keeps nothing.
func safe(f *simfs.FS) map[uint32]string {
	g := f.Copy()
	g.Crash(nil)
	return there(g)
}

// left is how many more acts there are ahead of the one at which a file system falls: as many as free numbers, if it doesn't.
func left(f *simfs.FS) int {
	g := f.Copy()
	for i := range uint32(api.MaxFiles + 1) {
		if e := g.Create(free + i); e != api.OK {
			return int(i)
		}
	}
	return -1
}

// sameFS tells whether two file systems are the same in all that can be seen.
func sameFS(f, g *simfs.FS) bool {
	return maps.Equal(there(f), there(g)) && maps.Equal(safe(f), safe(g)) && slices.Equal(f.Unsafe(), g.Unsafe()) && f.Down() == g.Down() && left(f) == left(g)
}

func holdFS(t *testing.T, what string, f, want *simfs.FS) {
	t.Helper()
	if !sameFS(f, want) {
		t.Errorf("%s: files %v, unsafe %v, down %v, %d acts left; want %v, %v, %v, %d", what, f.List(), f.Unsafe(), f.Down(), left(f), want.List(), want.Unsafe(), want.Down(), left(want))
	}
}

// step is an act that is wanted.
type step func(f *simfs.FS) api.Errno

func create(n uint32) step {
	return func(f *simfs.FS) api.Errno { return f.Create(n) }
}

func put(n uint32, b []byte) step {
	return func(f *simfs.FS) api.Errno { return f.Append(n, b) }
}

func truncate(n uint32, size int) step {
	return func(f *simfs.FS) api.Errno { return f.Truncate(n, size) }
}

func syncs(n uint32) step {
	return func(f *simfs.FS) api.Errno { return f.Sync(n) }
}

func remove(n uint32) step {
	return func(f *simfs.FS) api.Errno { return f.Remove(n) }
}

// run does steps up to the first that answers an error.
func run(f *simfs.FS, steps []step) api.Errno {
	for _, s := range steps {
		if e := s(f); e != api.OK {
			return e
		}
	}
	return api.OK
}

// holdActs tells where a call doesn't do just these acts, one behind the other, up to the one at which the file system falls, whichever that is. Each time it is called on what begin makes.
func holdActs(t *testing.T, what string, begin func() (*simfs.FS, *Log), call func(f *simfs.FS, l *Log) api.Errno, steps ...step) {
	t.Helper()
	for fuse := range len(steps) + 2 {
		f, l := begin()
		want := f.Copy()
		f.Fuse(fuse)
		want.Fuse(fuse)
		e, wantE := call(f, l), run(want, steps)
		told := fmt.Sprintf("%s, falling at act %d", what, fuse)
		holdError(t, told, e, wantE)
		holdFS(t, told, f, want)
		if l != nil && l.Over() != (wantE != api.OK) {
			t.Errorf("%s: over %v", told, l.Over())
		}
	}
}

// holdOpenActs is holdActs of Open.
func holdOpenActs(t *testing.T, what string, begin func() *simfs.FS, keep, room int, steps ...step) {
	t.Helper()
	noLog := func() (*simfs.FS, *Log) { return begin(), nil }
	open := func(f *simfs.FS, _ *Log) api.Errno {
		l, e := Open(f, keep, room)
		if (l != nil) != (e == api.OK) {
			t.Errorf("%s: error %d, but log %v", what, e, l != nil)
		}
		return e
	}
	holdActs(t, what, noLog, open, steps...)
}

func TestExample(t *testing.T) {
	l := opened(t, simfs.New(), 2, 1)
	for _, b := range batches(0, 2) {
		holdError(t, "taken", l.Append(b), api.OK)
	}
	holdError(t, "a third one", l.Append(batchOf(2, 1)), api.ErrFull)
	holdLog(t, "two batches", l, batches(0, 2), 1)
	holdError(t, "expire", l.Expire(), api.OK)
	holdLog(t, "expired", l, nil, 0)
	holdError(t, "there is room", l.Append(batchOf(2, 1)), api.OK)
	holdLog(t, "a third one", l, batches(2, 3), 1)
}

func TestOpenKeepsAndRooms(t *testing.T) {
	for keep := 1; keep <= maxKeep; keep++ {
		for room := 1; room <= maxRoom; room++ {
			f := simfs.New()
			f.Fuse(0)
			holdLog(t, "no files", opened(t, f, keep, room), nil, 0)
			holdFS(t, "no files", f, fused(simfs.New(), 0))
		}
	}
}

func fused(f *simfs.FS, acts int) *simfs.FS {
	f.Fuse(acts)
	return f
}

// TestOpenNoKeepNoRoom has file systems, too, that are down or hold what is no log: that the keep or the room is none is told ahead of that.
func TestOpenNoKeepNoRoom(t *testing.T) {
	none := []int{0, -1, math.MinInt, math.MaxInt, 1<<16 + 1, 1<<32 + 1, math.MinInt32}
	wrong := madeSafe(t, files{3: []byte("x"), 5: nil})
	down := fused(wrong.Copy(), 0)
	down.Create(9)
	for _, f := range []*simfs.FS{simfs.New(), wrong, down, nil} {
		for _, keep := range append(none, maxKeep+1, 255, 256) {
			holdNoLog(t, fmt.Sprint("keep ", keep), f, keep, 1, api.ErrArg)
		}
		for _, room := range append(none, maxRoom+1, 255, 256) {
			holdNoLog(t, fmt.Sprint("room ", room), f, 1, room, api.ErrArg)
		}
		holdNoLog(t, "neither", f, 0, 0, api.ErrArg)
	}
	holdNoLog(t, "nil", nil, 1, 1, api.ErrArg)
}

// holdNoLog tells where Open doesn't refuse a file system with that error, or acts on it.
func holdNoLog(t *testing.T, what string, f *simfs.FS, keep, room int, want api.Errno) {
	t.Helper()
	var as *simfs.FS
	if f != nil {
		as = f.Copy()
	}
	if l, e := Open(f, keep, room); l != nil || e != want {
		t.Errorf("%s: log %v, error %d, want %d", what, l != nil, e, want)
	}
	if f != nil {
		holdFS(t, what, f, as)
	}
}

func TestOpenDown(t *testing.T) {
	for what, fs := range map[string]files{
		"no files":      nil,
		"a right one":   {0: fileOf(0, 2, batches(0, 2))},
		"a torn one":    {0: headOf(0, 2)[:5]},
		"no log at all": {3: nil, 5: nil},
	} {
		f := fused(madeSafe(t, fs), 0)
		f.Create(9)
		holdNoLog(t, what, f, 2, 3, api.ErrDown)
	}
}

// TestOpenNoLog has last files, too, that would be removed or cut off: nothing is done to them if there is no log.
func TestOpenNoLog(t *testing.T) {
	two, one := batches(0, 2), batches(0, 1)
	right := func(n uint32) []byte { return fileOf(n, 2, two) }
	noBatch := frameOf([]byte("SPAN"))
	bent := right(0)
	bent[len(bent)-1] ^= 1
	for what, fs := range map[string]files{
		"more files than the room":            {0: right(0), 1: right(1), 2: right(2), 3: right(3)},
		"more files, the last one torn":       {0: right(0), 1: right(1), 2: right(2), 3: nil},
		"a number left out":                   {0: right(0), 2: right(2)},
		"a number left out, a torn one":       {0: right(0), 2: {1, 2}},
		"a number left out later":             {0: right(0), 1: right(1), 3: right(3)},
		"the least and the greatest":          {0: right(0), math.MaxUint32: right(math.MaxUint32)},
		"256 further on":                      {0: right(0), 256: right(256)},
		"the first not sealed":                {0: fileOf(0, 2, one), 1: right(1)},
		"the first not sealed, a torn one":    {0: fileOf(0, 2, one), 1: {1}},
		"the first a head alone":              {0: headOf(0, 2), 1: right(1)},
		"the first no segment":                {0: []byte("SEG1"), 1: right(1)},
		"the first of no bytes":               {0: nil, 1: right(1)},
		"the first's number another one":      {0: right(7), 1: right(1)},
		"the first's keep less":               {0: fileOf(0, 1, one), 1: right(1)},
		"the first's keep more":               {0: fileOf(0, 3, batches(0, 3)), 1: right(1)},
		"the first with a byte behind":        {0: append(right(0), 0), 1: right(1)},
		"the first with a frame behind":       {0: fileOf(0, 2, batches(0, 3)), 1: right(1)},
		"the first with its last byte bent":   {0: bent, 1: right(1)},
		"the first with a byte too few":       {0: right(0)[:len(right(0))-1], 1: right(1)},
		"the first with a frame of no batch":  {0: fileOf(0, 2, one, noBatch, frameOf(two[1])), 1: right(1)},
		"the second not sealed":               {0: right(0), 1: fileOf(1, 2, one), 2: right(2)},
		"the second's number the first's":     {0: right(0), 1: right(0), 2: right(2)},
		"the last one's number another one":   {0: right(0), 1: right(0)},
		"the only one's number another one":   {0: right(1)},
		"its number another one, bytes torn":  {0: fileOf(1, 2, one, []byte("torn"))},
		"its number another one in one byte":  {256: right(0)},
		"the last one's keep less":            {0: right(0), 1: fileOf(1, 1, one)},
		"the last one's keep more":            {0: right(0), 1: fileOf(1, 3, one)},
		"the last one's keep more, bytes too": {0: right(0), 1: fileOf(1, 3, one, noBatch)},
	} {
		holdNoLog(t, what, madeSafe(t, fs), 2, 3, api.ErrForm)
		holdNoLog(t, what+", unsafe", made(t, fs), 2, 3, api.ErrForm)
		holdNoLog(t, what+", at the first act", fused(made(t, fs), 0), 2, 3, api.ErrForm)
	}
}

func TestOpenWithoutActs(t *testing.T) {
	for what, x := range map[string]struct {
		fs         files
		keep, room int
		bodies     [][]byte
	}{
		"a head alone":        {files{0: headOf(0, 2)}, 2, 1, nil},
		"not sealed":          {files{0: fileOf(0, 2, batches(0, 1))}, 2, 1, batches(0, 1)},
		"sealed":              {files{0: fileOf(0, 2, batches(0, 2))}, 2, 1, batches(0, 2)},
		"as many as the room": {files{4: fileOf(4, 2, batches(0, 2)), 5: fileOf(5, 2, batches(2, 4)), 6: fileOf(6, 2, batches(4, 6))}, 2, 3, batches(0, 6)},
		"less than the room":  {files{4: fileOf(4, 1, batches(0, 1)), 5: fileOf(5, 1, batches(1, 2))}, 1, 3, batches(0, 2)},
		"the last a head":     {files{255: fileOf(255, 1, batches(0, 1)), 256: headOf(256, 1)}, 1, 2, batches(0, 1)},
		"the greatest number": {files{math.MaxUint32 - 1: fileOf(math.MaxUint32-1, 3, batches(0, 3)), math.MaxUint32: fileOf(math.MaxUint32, 3, batches(3, 5))}, 3, 2, batches(0, 5)},
		"batches alike":       {files{0: fileOf(0, 2, [][]byte{batchOf(1, 1), batchOf(1, 1)})}, 2, 1, [][]byte{batchOf(1, 1), batchOf(1, 1)}},
	} {
		f := fused(madeSafe(t, x.fs), 0)
		as := f.Copy()
		l := opened(t, f, x.keep, x.room)
		holdLog(t, what, l, x.bodies, len(x.fs))
		holdFS(t, what, f, as)
	}
}

func TestOpenAsMuchAsMayBe(t *testing.T) {
	fs, bodies := files{}, [][]byte(nil)
	for n := range uint32(maxRoom) {
		var own [][]byte
		for i := range maxKeep {
			own = append(own, batchOf(int(n)*maxKeep+i, api.MaxBatch))
		}
		fs[n+9], bodies = fileOf(n+9, maxKeep, own), append(bodies, own...)
	}
	f := madeSafe(t, fs)
	l := opened(t, f, maxKeep, maxRoom)
	holdLog(t, "32 segments of 16 batches of 32 spans", l, bodies, maxRoom)
	holdError(t, "one more", l.Append(batchOf(0, 1)), api.ErrFull)
	holdNoLog(t, "a room that is less by 1", f, maxKeep, maxRoom-1, api.ErrForm)
}

// lastNoSegments are files that begin with no segment, for each error that layer 7 has for them.
func lastNoSegments(n uint32) map[string][]byte {
	otherSum := headOf(n, 2)
	otherSum[13] ^= 0x80
	batch := frameOf(batchOf(0, 1))
	return map[string][]byte{
		"no bytes":           nil,
		"13 bytes":           headOf(n, 2)[:13],
		"other letters":      append(headThatTells("SEG2", n, 2), batch...),
		"another sum":        append(otherSum, batch...),
		"a keep of 0":        append(headThatTells("SEG1", n, 0), batch...),
		"a keep of 17":       append(headThatTells("SEG1", n, 17), batch...),
		"another one's, bad": headThatTells("SEG3", n+1, 99),
		"many zeros":         make([]byte, 500),
	}
}

func TestOpenRemovesTheLast(t *testing.T) {
	for what, b := range lastNoSegments(0) {
		begin := func() *simfs.FS { return madeSafe(t, files{0: b}) }
		holdOpenActs(t, what, begin, 2, 3, remove(0), syncs(0))
		f := begin()
		l := opened(t, f, 2, 3)
		holdLog(t, what, l, nil, 0)
		holdAgain(t, what, f, l)
	}
	for what, b := range lastNoSegments(6) {
		what += " behind two"
		begin := func() *simfs.FS {
			return madeSafe(t, files{4: fileOf(4, 2, batches(0, 2)), 5: fileOf(5, 2, batches(2, 4)), 6: b})
		}
		holdOpenActs(t, what, begin, 2, 3, remove(6), syncs(6))
		f := begin()
		l := opened(t, f, 2, 3)
		holdLog(t, what, l, batches(0, 4), 2)
		holdAgain(t, what, f, l)
		holdError(t, what+": the next one", l.Append(batchOf(4, 1)), api.OK)
		if !slices.Equal(f.List(), []uint32{4, 5, 6}) {
			t.Errorf("%s: files %v", what, f.List())
		}
	}
}

// TestOpenRemovesTheLastNeverSafe is what the words come to where there was no crash: when the file is removed, nothing is left to be synced.
func TestOpenRemovesTheLastNeverSafe(t *testing.T) {
	begin := func() *simfs.FS { return made(t, files{0: []byte("SEG")}) }
	holdOpenActs(t, "never safe", begin, 2, 3, remove(0), syncs(0))
	f := begin()
	l, e := Open(f, 2, 3)
	if l != nil || e != api.ErrNone {
		t.Errorf("never safe: log %v, error %d", l != nil, e)
	}
	holdLog(t, "opened once more", opened(t, f, 2, 3), nil, 0)
}

// behinds are what may stand behind a last file's frames, which are as few as that isn't sealed.
func behinds() map[string][]byte {
	otherSum := frameOf(batchOf(8, 1))
	otherSum[30] ^= 4
	return map[string][]byte{
		"a byte":             {0},
		"a cut-off frame":    frameOf(batchOf(8, 1))[:86],
		"another sum":        otherSum,
		"no batch":           frameOf([]byte("SPAN")),
		"a head":             headOf(0, 2),
		"no batch, then one": append(frameOf([]byte("x")), frameOf(batchOf(8, 1))...),
		"many zeros":         make([]byte, 700),
	}
}

func TestOpenCutsTheLastOff(t *testing.T) {
	for what, behind := range behinds() {
		for count := range 3 {
			own := batches(2, 2+count)
			good := len(fileOf(7, 2, own))
			told := fmt.Sprintf("%s behind %d frames", what, count)
			for _, lay := range []func(*testing.T, files) *simfs.FS{madeSafe, made} {
				begin := func() *simfs.FS {
					return lay(t, files{6: fileOf(6, 2, batches(0, 2)), 7: fileOf(7, 2, own, behind)})
				}
				holdOpenActs(t, told, begin, 2, 3, truncate(7, good), syncs(7))
				f := begin()
				l := opened(t, f, 2, 3)
				holdLog(t, told, l, batches(0, 2+count), 2)
				holdAgain(t, told, f, l)
				if b, _ := f.Read(7); len(b) != good || slices.Contains(f.Unsafe(), 7) {
					t.Errorf("%s: %d bytes, unsafe %v", told, len(b), f.Unsafe())
				}
			}
		}
	}
}

func TestOpenCutsOffFramesAboveTheKeep(t *testing.T) {
	good := len(fileOf(0, 2, batches(0, 2)))
	begin := func() *simfs.FS { return madeSafe(t, files{0: fileOf(0, 2, batches(0, 4))}) }
	holdOpenActs(t, "two frames above the keep", begin, 2, 1, truncate(0, good), syncs(0))
	holdLog(t, "two frames above the keep", opened(t, begin(), 2, 1), batches(0, 2), 1)
}

// TestOpenCutsOffWhatIsNotSafe cuts off down to just what is safe: the sync stays an act.
func TestOpenCutsOffWhatIsNotSafe(t *testing.T) {
	good := fileOf(0, 2, batches(0, 1))
	begin := func() *simfs.FS {
		f := madeSafe(t, files{0: good})
		f.Append(0, []byte("torn"))
		return f
	}
	holdOpenActs(t, "cut off to what is safe", begin, 2, 1, truncate(0, len(good)), syncs(0))
}

func TestOpenSyncsTheLast(t *testing.T) {
	sealed, one := fileOf(3, 2, batches(0, 2)), fileOf(3, 2, batches(0, 1))
	for what, x := range map[string]struct {
		begin func() *simfs.FS
		steps []step
	}{
		"sealed, never safe":      {func() *simfs.FS { return made(t, files{3: sealed}) }, []step{syncs(3)}},
		"sealed, safe":            {func() *simfs.FS { return madeSafe(t, files{3: sealed}) }, nil},
		"not sealed, never safe":  {func() *simfs.FS { return made(t, files{3: one}) }, nil},
		"a head alone, not safe":  {func() *simfs.FS { return made(t, files{3: headOf(3, 2)}) }, nil},
		"sealed, not safe wholly": {func() *simfs.FS { return grown(t, one, frameOf(batchOf(1, 1))) }, []step{syncs(3)}},
		"sealed, others not safe": {func() *simfs.FS { return othersUnsafe(t, sealed) }, nil},
	} {
		holdOpenActs(t, what, x.begin, 2, 3, x.steps...)
	}
}

// grown has a file 3 of which the first part is safe.
func grown(t *testing.T, first, then []byte) *simfs.FS {
	t.Helper()
	f := madeSafe(t, files{3: first})
	holdError(t, "grown", f.Append(3, then), api.OK)
	return f
}

// othersUnsafe has a safe file 3, and unsafe numbers ahead of it and behind, of which only one is there.
func othersUnsafe(t *testing.T, b []byte) *simfs.FS {
	t.Helper()
	f := madeSafe(t, files{3: b, 5: nil})
	f.Create(2)
	f.Append(2, fileOf(2, 2, batches(7, 9)))
	f.Remove(5)
	return f
}

// TestAppendActs goes through each kind of Append: one that begins a segment, seals it, does both or neither.
func TestAppendActs(t *testing.T) {
	next := func(count int) func(*simfs.FS, *Log) api.Errno {
		return func(_ *simfs.FS, l *Log) api.Errno { return l.Append(batchOf(count, 1)) }
	}
	framed := func(count int) []byte { return frameOf(batchOf(count, 1)) }
	for what, x := range map[string]struct {
		keep, count int
		steps       []step
	}{
		"the first":                    {3, 0, []step{create(0), put(0, headOf(0, 3)), put(0, framed(0))}},
		"the second of three":          {3, 1, []step{put(0, framed(1))}},
		"the third of three":           {3, 2, []step{put(0, framed(2)), syncs(0)}},
		"the first of the next":        {3, 3, []step{create(1), put(1, headOf(1, 3)), put(1, framed(3))}},
		"the last of the next":         {3, 5, []step{put(1, framed(5)), syncs(1)}},
		"the first, of a keep of 1":    {1, 0, []step{create(0), put(0, headOf(0, 1)), put(0, framed(0)), syncs(0)}},
		"the next one, of a keep of 1": {1, 2, []step{create(2), put(2, headOf(2, 1)), put(2, framed(2)), syncs(2)}},
	} {
		begin := func() (*simfs.FS, *Log) { return appended(t, x.keep, 4, x.count) }
		holdActs(t, what, begin, next(x.count), x.steps...)
		_, l := begin()
		holdError(t, what, next(x.count)(nil, l), api.OK)
		holdLog(t, what, l, batches(0, x.count+1), x.count/x.keep+1)
	}
}

// TestAppendBehindOpen goes on with files that a log found.
func TestAppendBehindOpen(t *testing.T) {
	for what, x := range map[string]struct {
		fs    files
		steps []step
	}{
		"a head alone":  {files{4: headOf(4, 2)}, []step{put(4, frameOf(batchOf(9, 1)))}},
		"one of two":    {files{4: fileOf(4, 2, batches(0, 1))}, []step{put(4, frameOf(batchOf(9, 1))), syncs(4)}},
		"sealed":        {files{4: fileOf(4, 2, batches(0, 2))}, []step{create(5), put(5, headOf(5, 2)), put(5, frameOf(batchOf(9, 1)))}},
		"the last torn": {files{4: fileOf(4, 2, batches(0, 2)), 5: []byte("SEG")}, []step{create(5), put(5, headOf(5, 2)), put(5, frameOf(batchOf(9, 1)))}},
		"only one torn": {files{4: []byte("SEG")}, []step{create(0), put(0, headOf(0, 2)), put(0, frameOf(batchOf(9, 1)))}},
		"cut off":       {files{4: fileOf(4, 2, batches(0, 1), []byte("torn"))}, []step{put(4, frameOf(batchOf(9, 1))), syncs(4)}},
	} {
		begin := func() (*simfs.FS, *Log) {
			f := madeSafe(t, x.fs)
			return f, opened(t, f, 2, 3)
		}
		holdActs(t, what, begin, func(_ *simfs.FS, l *Log) api.Errno { return l.Append(batchOf(9, 1)) }, x.steps...)
	}
}

// notBatches are bodies that are no batch's bytes, for each error that layer 4 has for them.
func notBatches() map[string][]byte {
	whole := batchOf(3, 2)
	otherKind := slices.Clone(whole)
	otherKind[6+24] = 3
	return map[string][]byte{
		"nil":             nil,
		"no bytes":        {},
		"the letters":     []byte("SPAN"),
		"no spans":        []byte("SPAN\x00\x00"),
		"other letters":   append([]byte("s"), whole[1:]...),
		"a byte too few":  whole[:len(whole)-1],
		"a byte too many": append(slices.Clone(whole), 0),
		"a kind of 3":     otherKind,
		"33 spans":        append([]byte("SPAN\x21\x00"), make([]byte, 33*75)...),
		"its frame":       frameOf(whole),
		"many bytes":      make([]byte, 1<<17),
	}
}

// TestAppendNoBatch has logs, too, that are full: that a body is no batch is told ahead of that.
func TestAppendNoBatch(t *testing.T) {
	for count := range 5 {
		for what, body := range notBatches() {
			f, l := appended(t, 2, 2, count)
			f.Fuse(0)
			as := f.Copy()
			holdError(t, what, l.Append(body), api.ErrArg)
			holdFS(t, what, f, as)
			holdLog(t, what, l, batches(0, count), (count+1)/2)
		}
	}
}

func TestAppendFull(t *testing.T) {
	for _, keep := range []int{1, 2, 16} {
		for _, room := range []int{1, 3, 32} {
			f, l := appended(t, keep, room, keep*room)
			f.Fuse(0)
			as := f.Copy()
			what := fmt.Sprintf("keep %d, room %d", keep, room)
			holdError(t, what, l.Append(batchOf(0, 1)), api.ErrFull)
			holdError(t, what+", again", l.Append(batchOf(0, 1)), api.ErrFull)
			holdFS(t, what, f, as)
			holdLog(t, what, l, batches(0, keep*room), room)
			f.Fuse(-1)
			holdError(t, what+": expire", l.Expire(), api.OK)
			for i := range keep {
				holdError(t, what+": room again", l.Append(batchOf(keep*room+i, 1)), api.OK)
			}
			holdError(t, what+": full again", l.Append(batchOf(0, 1)), api.ErrFull)
			holdLog(t, what+", full again", l, batches(keep, keep*room+keep), room)
		}
	}
}

func TestAppendAboveTheGreatestNumber(t *testing.T) {
	const greatest = math.MaxUint32
	f := madeSafe(t, files{greatest - 1: fileOf(greatest-1, 2, batches(0, 2))})
	l := opened(t, f, 2, 32)
	holdError(t, "the greatest is begun", l.Append(batchOf(2, 1)), api.OK)
	holdError(t, "the greatest is sealed", l.Append(batchOf(3, 1)), api.OK)
	holdError(t, "none behind it", l.Append(batchOf(4, 1)), api.ErrFull)
	holdError(t, "the first one goes", l.Expire(), api.OK)
	holdError(t, "still none behind it", l.Append(batchOf(4, 1)), api.ErrFull)
	holdLog(t, "the greatest", l, batches(2, 4), 1)
	if !slices.Equal(f.List(), []uint32{greatest}) {
		t.Error(f.List())
	}
	holdError(t, "the greatest goes", l.Expire(), api.OK)
	holdError(t, "from the least on", l.Append(batchOf(4, 1)), api.OK)
	if !slices.Equal(f.List(), []uint32{0}) {
		t.Error(f.List())
	}
}

func TestNumbers(t *testing.T) {
	f, l := appended(t, 1, 2, 2)
	for i := 2; i < 300; i++ {
		holdError(t, "expire", l.Expire(), api.OK)
		holdError(t, "append", l.Append(batchOf(i, 1)), api.OK)
		if want := []uint32{uint32(i - 1), uint32(i)}; !slices.Equal(f.List(), want) || len(f.Unsafe()) != 0 {
			t.Errorf("files %v, unsafe %v, want %v", f.List(), f.Unsafe(), want)
		}
		holdLog(t, fmt.Sprint("behind ", i), l, batches(i-1, i+1), 2)
	}
	holdError(t, "expire", l.Expire(), api.OK)
	holdError(t, "expire all", l.Expire(), api.OK)
	holdError(t, "from 0 on again", l.Append(batchOf(0, 1)), api.OK)
	if !slices.Equal(f.List(), []uint32{0}) {
		t.Error(f.List())
	}
}

func TestFlushActs(t *testing.T) {
	flush := func(_ *simfs.FS, l *Log) api.Errno { return l.Flush() }
	for count, steps := range map[int][]step{0: nil, 1: {syncs(0)}, 2: {syncs(0)}, 3: nil, 4: {syncs(1)}, 6: nil, 8: {syncs(2)}} {
		begin := func() (*simfs.FS, *Log) { return appended(t, 3, 4, count) }
		holdActs(t, fmt.Sprintf("flush behind %d", count), begin, flush, steps...)
		flushed := func() (*simfs.FS, *Log) {
			f, l := begin()
			holdError(t, "flush", l.Flush(), api.OK)
			holdLog(t, "flushed", l, batches(0, count), (count+2)/3)
			return f, l
		}
		holdActs(t, fmt.Sprintf("flush again behind %d", count), flushed, flush)
	}
	others := func() (*simfs.FS, *Log) {
		f := othersUnsafe(t, fileOf(3, 2, batches(0, 2)))
		return f, opened(t, f, 2, 3)
	}
	holdActs(t, "flush where others are unsafe", others, flush)
	headAlone := func() (*simfs.FS, *Log) {
		f := made(t, files{3: headOf(3, 2)})
		return f, opened(t, f, 2, 3)
	}
	holdActs(t, "flush of a head alone", headAlone, flush, syncs(3))
}

func TestExpireActs(t *testing.T) {
	expire := func(_ *simfs.FS, l *Log) api.Errno { return l.Expire() }
	for count := 3; count < 10; count++ {
		begin := func() (*simfs.FS, *Log) { return appended(t, 3, 3, count) }
		holdActs(t, fmt.Sprintf("expire of %d", count), begin, expire, remove(0), syncs(0))
		f, l := begin()
		holdError(t, "expire", l.Expire(), api.OK)
		holdLog(t, "expired", l, batches(3, count), (count+2)/3-1)
		holdAgain(t, "expired", f, l)
		next := func() (*simfs.FS, *Log) {
			f, l := begin()
			holdError(t, "expire", l.Expire(), api.OK)
			return f, l
		}
		if count >= 6 {
			holdActs(t, fmt.Sprintf("expire again of %d", count), next, expire, remove(1), syncs(1))
		}
	}
}

func TestExpireNone(t *testing.T) {
	for count := range 3 {
		f, l := appended(t, 3, 3, count)
		f.Fuse(0)
		as := f.Copy()
		holdError(t, "expire", l.Expire(), api.ErrNone)
		holdFS(t, "nothing to expire", f, as)
		holdLog(t, "nothing to expire", l, batches(0, count), min(count, 1))
	}
	_, l := appended(t, 3, 3, 5)
	holdError(t, "expire", l.Expire(), api.OK)
	holdError(t, "expire what isn't sealed", l.Expire(), api.ErrNone)
	holdLog(t, "what isn't sealed", l, batches(3, 5), 1)
	l = opened(t, madeSafe(t, files{0: headOf(0, 2)}), 2, 1)
	holdError(t, "expire a head alone", l.Expire(), api.ErrNone)
	holdLog(t, "a head alone", l, nil, 1)
}

// holdOver tells where a log isn't over, hasn't just these bodies and so many segments, or does anything more.
func holdOver(t *testing.T, what string, f *simfs.FS, l *Log, bodies [][]byte, segs int) {
	t.Helper()
	for range 2 {
		as := f.Copy()
		holdError(t, what+": append", l.Append(batchOf(99, 1)), api.ErrDown)
		holdError(t, what+": append of none", l.Append(nil), api.ErrDown)
		holdError(t, what+": flush", l.Flush(), api.ErrDown)
		holdError(t, what+": expire", l.Expire(), api.ErrDown)
		holdFS(t, what, f, as)
		if got := l.Bodies(); !slices.EqualFunc(got, bodies, bytes.Equal) || l.Segs() != segs || !l.Over() {
			t.Errorf("%s: %d bodies in %d segments, over %v; want %d in %d", what, len(got), l.Segs(), l.Over(), len(bodies), segs)
		}
		f.Crash(nil)
	}
}

func TestOver(t *testing.T) {
	for count := range 9 {
		segs := (count + 1) / 2
		for fuse := range 4 {
			f, l := appended(t, 2, 4, count)
			f.Fuse(fuse)
			if e := l.Append(batchOf(count, 1)); e == api.ErrDown {
				holdOver(t, fmt.Sprintf("append %d, fallen at act %d", count, fuse), f, l, batches(0, count), segs)
			}
			f, l = appended(t, 2, 4, count)
			f.Fuse(fuse)
			if e := l.Flush(); e == api.ErrDown {
				holdOver(t, fmt.Sprintf("flush behind %d, fallen at act %d", count, fuse), f, l, batches(0, count), segs)
			}
			f, l = appended(t, 2, 4, count)
			f.Fuse(fuse)
			if e := l.Expire(); e == api.ErrDown {
				holdOver(t, fmt.Sprintf("expire of %d, fallen at act %d", count, fuse), f, l, batches(2, count), segs-1)
			}
		}
	}
}

// TestOverFull has a log that could answer other errors, too, if it weren't over.
func TestOverFull(t *testing.T) {
	f, l := appended(t, 1, 2, 2)
	f.Fuse(0)
	holdError(t, "expire", l.Expire(), api.ErrDown)
	holdOver(t, "expired", f, l, batches(1, 2), 1)
	f, l = appended(t, 2, 1, 1)
	f.Fuse(0)
	holdError(t, "flush", l.Flush(), api.ErrDown)
	holdOver(t, "not sealed", f, l, batches(0, 1), 1)
}

// TestOverByOtherErrors has acts that are refused, each by another error.
func TestOverByOtherErrors(t *testing.T) {
	f := madeSafe(t, files{0: fileOf(0, 1, batches(0, 1)), 1: nil})
	f.Remove(1)
	l := opened(t, f, 1, 3)
	holdError(t, "a number that is unsafe", l.Append(batchOf(1, 1)), api.ErrState)
	holdOver(t, "a number that is unsafe", f, l, batches(0, 1), 1)

	f, l = appended(t, 3, 3, 1)
	f.Crash(nil)
	holdError(t, "a crash that nobody told of", l.Append(batchOf(1, 1)), api.ErrNone)
	holdOver(t, "a crash that nobody told of", f, l, batches(0, 1), 1)

	f = made(t, files{0: fileOf(0, 1, batches(0, 1)), 1: fileOf(1, 1, batches(1, 2))})
	l = opened(t, f, 1, 3)
	holdError(t, "a segment that was never safe", l.Expire(), api.ErrNone)
	holdOver(t, "a segment that was never safe", f, l, batches(1, 2), 1)
}

func TestNotOverByRefusals(t *testing.T) {
	_, l := appended(t, 2, 1, 0)
	holdError(t, "none to expire", l.Expire(), api.ErrNone)
	holdError(t, "no batch", l.Append(nil), api.ErrArg)
	holdError(t, "first", l.Append(batchOf(0, 1)), api.OK)
	holdError(t, "not sealed", l.Expire(), api.ErrNone)
	holdError(t, "second", l.Append(batchOf(1, 1)), api.OK)
	holdError(t, "full", l.Append(batchOf(2, 1)), api.ErrFull)
	holdLog(t, "refused", l, batches(0, 2), 1)
	holdError(t, "flush", l.Flush(), api.OK)
	holdError(t, "expire", l.Expire(), api.OK)
	holdLog(t, "expired", l, nil, 0)
}

func TestGreatBatches(t *testing.T) {
	f := simfs.New()
	l := opened(t, f, 3, 2)
	var want [][]byte
	for i := range 5 {
		body := batchOf(i, api.MaxBatch-i)
		want = append(want, body)
		holdError(t, "a great one", l.Append(body), api.OK)
	}
	holdLog(t, "great ones", l, want, 2)
	holdLog(t, "great ones, opened again", opened(t, f, 3, 2), want, 2)
}

func TestNothingIsShared(t *testing.T) {
	f := simfs.New()
	l := opened(t, f, 2, 3)
	for i := range 5 {
		body := append(make([]byte, 0, 4000), batchOf(i, 1)...)
		as := slices.Clone(body)
		holdError(t, "append", l.Append(body), api.OK)
		if !bytes.Equal(body, as) || !bytes.Equal(body[:cap(body)][len(body):], make([]byte, cap(body)-len(body))) {
			t.Error("what was handed in was changed")
		}
		clear(body[:cap(body)])
	}
	holdLog(t, "written into what was handed in", l, batches(0, 5), 3)
	holdLog(t, "and opened", opened(t, f, 2, 3), batches(0, 5), 3)
	for _, l := range []*Log{l, opened(t, f, 2, 3)} {
		got := l.Bodies()
		for i, body := range got {
			clear(body[:cap(body)])
			if rest := got[i+1:]; !slices.EqualFunc(rest, batches(i+1, 5), bytes.Equal) {
				t.Error("two bodies share memory")
			}
		}
		clear(got[:cap(got)])
		holdLog(t, "written into what was answered", l, batches(0, 5), 3)
	}
	holdLog(t, "and opened", opened(t, f, 2, 3), batches(0, 5), 3)
}

// TestTwoLogs has two logs in turn, each on a file system of its own.
func TestTwoLogs(t *testing.T) {
	f, l := appended(t, 2, 3, 1)
	g := f.Copy()
	m := opened(t, g, 2, 3)
	holdError(t, "one", l.Append(batchOf(7, 1)), api.OK)
	holdError(t, "the other", m.Append(batchOf(8, 1)), api.OK)
	holdError(t, "the other, next", m.Append(batchOf(9, 1)), api.OK)
	holdLog(t, "one", l, [][]byte{batchOf(0, 1), batchOf(7, 1)}, 1)
	holdLog(t, "the other", m, [][]byte{batchOf(0, 1), batchOf(8, 1), batchOf(9, 1)}, 2)
}
