package seglog_test

import (
	"fmt"
	"math"
	"slices"
	"strings"
	"testing"

	"cloisonne/api"
	"cloisonne/extent"
	"cloisonne/sector"
	"cloisonne/seglog"
)

func long(n int) string { return strings.Repeat("x", n) }

// lettered is a record's bytes that have so many parts, the last one of them short; each part is of a letter of its own.
func lettered(letter byte, parts int) string {
	s := ""
	for i := range parts - 1 {
		s += strings.Repeat(string([]byte{letter + byte(i)}), api.MaxData)
	}
	return s + string([]byte{letter + byte(parts-1), '!'})
}

func made(t testing.TB, extents, sectors int) *extent.World {
	t.Helper()
	w, err := extent.New(extents, sectors)
	if err != api.OK {
		t.Fatalf("a world of %d extents of %d sectors: %d", extents, sectors, err)
	}
	return w
}

func opened(t testing.TB, w *extent.World, first int) (*seglog.Log, []string) {
	t.Helper()
	l, records, err := seglog.Open(w, first)
	if l == nil || err != api.OK {
		t.Fatalf("opened at %d: %v, %d", first, l, err)
	}
	return l, records
}

// reopened is a log behind a crash and a start.
func reopened(t testing.TB, w *extent.World, first int, picks ...api.Pick) (*seglog.Log, []string) {
	t.Helper()
	done(t, w.Crash(picks), w.Start())
	return opened(t, w, first)
}

// done checks that calls went well.
func done(t testing.TB, errs ...api.Errno) {
	t.Helper()
	for i, err := range errs {
		if err != api.OK {
			t.Fatalf("call %d: %d", i, err)
		}
	}
}

// moves checks what moves answer.
func moves(t testing.TB, x *seglog.Writer, want ...int) {
	t.Helper()
	for i, move := range want {
		if v, err := x.Move(); v != move || err != api.OK {
			t.Fatalf("move %d: %d, %d, not %d", i+1, v, err, move)
		}
	}
}

// more is as many moves behind which there is more.
func more(n int) []int { return slices.Repeat([]int{api.MoveMore}, n) }

// ended checks all moves of a new writer of a record of s.
func ended(t testing.TB, x *seglog.Writer, s string) {
	t.Helper()
	moves(t, x, append(more(sector.Count(len(s))+1), api.MoveDone)...)
}

func recorded(t testing.TB, l *seglog.Log, records ...string) {
	t.Helper()
	for _, s := range records {
		ended(t, recordOf(t, l, s), s)
	}
}

func based(t testing.TB, l *seglog.Log, s string) {
	t.Helper()
	ended(t, baseOf(t, l, s), s)
}

func recordOf(t testing.TB, l *seglog.Log, s string) *seglog.Writer {
	t.Helper()
	return writerOf(t, l.Record, s)
}

func baseOf(t testing.TB, l *seglog.Log, s string) *seglog.Writer {
	t.Helper()
	return writerOf(t, l.Base, s)
}

func writerOf(t testing.TB, begin func(string) (*seglog.Writer, api.Errno), s string) *seglog.Writer {
	t.Helper()
	x, err := begin(s)
	if x == nil || err != api.OK {
		t.Fatalf("a writer of %d bytes: %v, %d", len(s), x, err)
	}
	return x
}

// refused checks that there is no writer.
func refused(t testing.TB, begin func(string) (*seglog.Writer, api.Errno), s string, want api.Errno) {
	t.Helper()
	if x, err := begin(s); x != nil || err != want {
		t.Errorf("a writer of %d bytes: %v, %d, not %d", len(s), x, err, want)
	}
}

// down checks that a move stays where it is, since the world is off.
func down(t testing.TB, x *seglog.Writer) {
	t.Helper()
	for range 2 {
		if v, err := x.Move(); v != api.MoveNone || err != api.ErrDown {
			t.Fatalf("a move while it is off: %d, %d", v, err)
		}
	}
}

// state is what a log tells.
type state struct {
	gen, used int
	busy      bool
}

// holds checks what a log of extents of so many sectors tells.
func holds(t testing.TB, l *seglog.Log, sectors int, want state) {
	t.Helper()
	if got := (state{l.Gen(), l.Used(), l.Busy()}); got != want {
		t.Fatalf("the log tells %+v, not %+v", got, want)
	}
	left := (sectors - want.used) * api.MaxData
	for n, room := range map[int]bool{
		math.MinInt: false, -api.MaxData: false, -1: false,
		0: left > 0, 1: left > 0, left - 1: left > 0, left: left > 0, left + 1: false, left + api.MaxData: false, math.MaxInt32: false, math.MaxInt - 1: false, math.MaxInt: false,
	} {
		if want.gen == 0 {
			room = false
		}
		if l.Room(n) != room {
			t.Fatalf("%+v of %d sectors: room for %d: %v", want, sectors, n, !room)
		}
	}
}

// stands checks what stands on a world's log, opened.
func stands(t testing.TB, w *extent.World, first int, want state, records ...string) *seglog.Log {
	t.Helper()
	l, got := opened(t, w, first)
	if !slices.Equal(got, records) {
		t.Fatalf("the records are %q, not %q", got, records)
	}
	holds(t, l, w.Sectors(), want)
	return l
}

// laid lays a sector of a stamp and data.
func laid(t testing.TB, w *extent.World, on int, x api.Stamp, data string) {
	t.Helper()
	s, err := sector.Pack(x, data)
	done(t, err, w.Lay(on, x.Index, s))
}

// at is the stamp of a part of a record, at the index where it stands.
func at(gen, index, life, part, parts int) api.Stamp {
	return api.Stamp{Gen: gen, Index: index, Life: life, Part: part, Parts: parts}
}

// stampOf is the stamp of what was written last to a sector.
func stampOf(t testing.TB, w *extent.World, on, place int) api.Stamp {
	t.Helper()
	s, err := w.Read(on, place)
	done(t, err)
	x, _, err := sector.Unpack(s)
	if err != api.OK {
		t.Fatalf("sector %d of %d is none: %q", place, on, s)
	}
	return x
}

// lifeOf is the life of a log that is opened on a world, by the first sector of a base; 0, if the life is too great to write.
func lifeOf(t testing.TB, w *extent.World, first int) int {
	t.Helper()
	l, _ := opened(t, w, first)
	x, err := l.Base("")
	if err == api.ErrSeq {
		return 0
	}
	done(t, err)
	moves(t, x, api.MoveMore)
	for _, on := range []int{first, first + 1} {
		s, _ := w.Read(on, 0)
		if x, _, err := sector.Unpack(s); err == api.OK && x.Gen == l.Gen()+1 {
			return x.Life
		}
	}
	t.Fatal("there is no base")
	return 0
}

// picture is all that can be told of a world's sectors: of each what was written last, and what is dry; and which ones are wet.
func picture(t testing.TB, w *extent.World) string {
	t.Helper()
	var s strings.Builder
	for e := range w.Extents() {
		for i := range w.Sectors() {
			last, _ := w.Read(e, i)
			dry, err := w.Dry(e, i)
			done(t, err)
			fmt.Fprintf(&s, "%q %q\n", last, dry)
		}
		fmt.Fprintln(&s, w.Wet(e))
	}
	return s.String()
}

// P7.1: Open

func TestOpenOfNoWorld(t *testing.T) {
	for _, first := range []int{math.MinInt, -1, 0, 1, math.MaxInt} {
		if l, records, err := seglog.Open(nil, first); l != nil || len(records) != 0 || err != api.ErrNil {
			t.Errorf("no world, at %d: %v, %q, %d", first, l, records, err)
		}
	}
}

func TestOpenAtEachFirst(t *testing.T) {
	for _, extents := range []int{1, 2, 3, 4, 5, api.MaxExtents - 1, api.MaxExtents} {
		firsts := []int{math.MinInt, math.MinInt + 1, math.MinInt32, 1 << 32, 1<<32 + 1, math.MaxInt32, math.MaxInt - 1, math.MaxInt}
		for first := -3; first <= extents+3; first++ {
			firsts = append(firsts, first)
		}
		for _, first := range firsts {
			w := made(t, extents, 2)
			if first >= 0 && first <= extents-2 {
				stands(t, w, first, state{})
			} else if l, records, err := seglog.Open(w, first); l != nil || len(records) != 0 || err != api.ErrArg {
				t.Errorf("%d of %d extents: %v, %q, %d, not ErrArg", first, extents, l, records, err)
			}
			done(t, w.Crash(nil))
			if l, records, err := seglog.Open(w, first); l != nil || len(records) != 0 || err != api.ErrDown {
				t.Errorf("%d of %d extents that are off: %v, %q, %d, not ErrDown", first, extents, l, records, err)
			}
		}
	}
}

func TestOpenOfOneThatIsOff(t *testing.T) {
	w := made(t, 2, 3)
	l, _ := opened(t, w, 0)
	based(t, l, "base")
	recorded(t, l, "more")
	done(t, w.Crash(nil))
	if l, records, err := seglog.Open(w, 0); l != nil || len(records) != 0 || err != api.ErrDown {
		t.Errorf("%v, %q, %d, not ErrDown", l, records, err)
	}
	done(t, w.Start())
	stands(t, w, 0, state{gen: 1, used: 2}, "base", "more")
}

func TestAFreshLog(t *testing.T) {
	for _, sectors := range []int{1, 2, 7, api.MaxSectors} {
		w := made(t, 3, sectors)
		for first := range 2 {
			l := stands(t, w, first, state{})
			refused(t, l.Record, "", api.ErrNone)
		}
	}
}

// TestWhatBearsNothingIsFresh lays what isn't a base.
func TestWhatBearsNothingIsFresh(t *testing.T) {
	whole, _ := sector.Pack(at(5, 0, 6, 0, 1), "base")
	for name, s := range map[string]string{
		"text": "base", "noughts": strings.Repeat("\x00", api.SectorBytes), "a sector cut short": whole[:63], "without its first byte": "\x00" + whole[1:], "bytes behind its data": whole[:63] + "\x01", "an empty one": "",
	} {
		t.Run(name, func(t *testing.T) {
			w := made(t, 2, 3)
			done(t, w.Lay(0, 0, s), w.Lay(1, 0, s))
			laid(t, w, 0, at(5, 1, 6, 0, 1), "behind")
			l := stands(t, w, 0, state{})
			refused(t, l.Record, "", api.ErrNone)
		})
	}
	for name, x := range map[string]api.Stamp{
		"another index":   at(5, 1, 6, 0, 1),
		"a later part":    at(5, 0, 6, 1, 2),
		"the last part":   at(5, 0, 6, 2, 3),
		"parts missing":   at(5, 0, 6, 0, 2),
		"too many parts":  at(5, 0, 6, 0, 4),
		"most parts":      at(5, 0, 6, 0, api.MaxSectors),
		"greatest stamps": at(api.MaxGen, 0, 6, 1, api.MaxSectors),
	} {
		t.Run(name, func(t *testing.T) {
			w := made(t, 2, 3)
			for on := range 2 {
				s, _ := sector.Pack(x, "base")
				done(t, w.Lay(on, 0, s))
				laid(t, w, on, at(5, 2, 6, 0, 1), "behind")
			}
			l := stands(t, w, 0, state{})
			moves(t, baseOf(t, l, "b"), api.MoveMore) // to the first extent, of generation 1, of a later life
			if x := stampOf(t, w, 0, 0); x != at(1, 0, 7, 0, 1) {
				t.Errorf("the base has %+v", x)
			}
		})
	}
}

// TestWhichExtentStands lays logs of two records, or nothing, on both extents.
func TestWhichExtentStands(t *testing.T) {
	const first = 1
	for _, c := range []struct {
		gens [2]int // 0: nothing
		on   int    // which one the log is
		next int    // which one its next base goes to
	}{
		{[2]int{0, 0}, 0, 0},
		{[2]int{3, 0}, 0, 1},
		{[2]int{0, 3}, 1, 0},
		{[2]int{1, 2}, 1, 0},
		{[2]int{2, 1}, 0, 1},
		{[2]int{1, 1}, 0, 1},
		{[2]int{2, 2}, 0, 1},
		{[2]int{api.MaxGen - 1, api.MaxGen - 1}, 0, 1},
		{[2]int{1, 9}, 1, 0},
		{[2]int{9, 1}, 0, 1},
		{[2]int{255, 256}, 1, 0},
		{[2]int{256, 255}, 0, 1},
		{[2]int{api.MaxGen - 1, api.MaxGen - 2}, 0, 1},
		{[2]int{1, api.MaxGen - 1}, 1, 0},
	} {
		w := made(t, 4, 3)
		for i, gen := range c.gens {
			if gen != 0 {
				laid(t, w, first+i, at(gen, 0, 4-i, 0, 1), fmt.Sprint("base ", i))
				laid(t, w, first+i, at(gen, 1, 4-i, 0, 1), fmt.Sprint("more ", i))
			}
		}
		var l *seglog.Log
		gen := c.gens[c.on]
		if gen == 0 {
			l = stands(t, w, first, state{})
		} else {
			l = stands(t, w, first, state{gen: gen, used: 2}, fmt.Sprint("base ", c.on), fmt.Sprint("more ", c.on))
		}
		based(t, l, "next")
		holds(t, l, 3, state{gen: gen + 1, used: 1})
		if x := stampOf(t, w, first+c.next, 0); x.Gen != gen+1 {
			t.Errorf("%v: the next base has %+v", c.gens, x)
		}
		stands(t, w, first, state{gen: gen + 1, used: 1}, "next")
	}
}

// TestAGreaterGenerationThatDoesNotStand has no whole base of it on the other extent.
func TestAGreaterGenerationThatDoesNotStand(t *testing.T) {
	for name, x := range map[string]api.Stamp{"half a base": at(9, 0, 2, 0, 2), "another part": at(9, 0, 2, 1, 2), "another index": at(9, 1, 2, 0, 1)} {
		for on := range 2 {
			t.Run(fmt.Sprint(name, ", the log on ", on), func(t *testing.T) {
				w := made(t, 2, 3)
				laid(t, w, on, at(2, 0, 1, 0, 1), "base")
				s, err := sector.Pack(x, "none")
				done(t, err, w.Lay(1-on, 0, s))
				l := stands(t, w, 0, state{gen: 2, used: 1}, "base")
				based(t, l, "next")
				stands(t, w, 0, state{gen: 3, used: 1}, "next")
			})
		}
	}
}

// TestRecordsEnd has a base of one part, a record of three and one of one; one sector is turned. What was ahead of the record that it is of is told, nothing behind it.
func TestRecordsEnd(t *testing.T) {
	const gen, life, sectors = 7, 5, 6
	stamps := []api.Stamp{at(gen, 0, life, 0, 1), at(gen, 1, life, 0, 3), at(gen, 2, life, 1, 3), at(gen, 3, life, 2, 3), at(gen, 4, life, 0, 1)}
	all := []string{"base", "onetwothree", "last"}
	data := []string{"base", "one", "two", "three", "last"}
	begun := []int{0, 1, 1, 1, 2} // how many records are ahead of the one that a sector is of
	used := []int{0, 1, 4, 5}
	fresh := func() *extent.World {
		w := made(t, 2, sectors)
		for i, x := range stamps {
			laid(t, w, 1, x, data[i])
		}
		return w
	}
	stands(t, fresh(), 0, state{gen: gen, used: 5}, all...)
	ends := func(name string, w *extent.World, ahead int) {
		t.Helper()
		want := state{gen: gen, used: used[ahead]}
		if ahead == 0 {
			want = state{}
		}
		t.Run(name, func(t *testing.T) { stands(t, w, 0, want, all[:ahead]...) })
	}
	for i, x := range stamps {
		for name, s := range map[string]string{"empty": "", "text": "text", "noughts": strings.Repeat("\x00", api.SectorBytes)} {
			w := fresh()
			done(t, w.Lay(1, i, s))
			ends(fmt.Sprint(name, " at ", i), w, begun[i])
		}
		for name, turned := range map[string]api.Stamp{
			"a lower gen":     at(gen-1, x.Index, x.Life, x.Part, x.Parts),
			"a greater gen":   at(gen+1, x.Index, x.Life, x.Part, x.Parts),
			"the first gen":   at(1, x.Index, x.Life, x.Part, x.Parts),
			"the last gen":    at(api.MaxGen, x.Index, x.Life, x.Part, x.Parts),
			"the index ahead": at(x.Gen, max(x.Index-1, 0), x.Life, x.Part, x.Parts),
			"the next index":  at(x.Gen, x.Index+1, x.Life, x.Part, x.Parts),
			"the last index":  at(x.Gen, api.MaxSectors-1, x.Life, x.Part, x.Parts),
			"the next part":   at(x.Gen, x.Index, x.Life, x.Part+1, max(x.Parts, x.Part+2)),
			"the part ahead":  at(x.Gen, x.Index, x.Life, max(x.Part-1, 0), x.Parts),
			"more parts":      at(x.Gen, x.Index, x.Life, x.Part, x.Parts+1),
			"too many parts":  at(x.Gen, x.Index, x.Life, x.Part, sectors-i+x.Part+1),
			"most parts":      at(x.Gen, x.Index, x.Life, x.Part, api.MaxSectors),
			"fewer parts":     at(x.Gen, x.Index, x.Life, x.Part, max(x.Part+1, x.Parts-1)),
			"a lower life":    at(x.Gen, x.Index, x.Life-1, x.Part, x.Parts),
			"a greater life":  at(x.Gen, x.Index, x.Life+1, x.Part, x.Parts),
		} {
			if turned == x || x.Parts == 1 && turned.Life != x.Life { // a record of one part has any life
				continue
			}
			if i == 0 && turned.Gen != x.Gen { // it stands: its generation has a base, and no more
				w := fresh()
				laid(t, w, 1, turned, "base")
				t.Run(name, func(t *testing.T) { stands(t, w, 0, state{gen: turned.Gen, used: 1}, "base") })
				continue
			}
			w := fresh()
			s, err := sector.Pack(turned, data[i])
			done(t, err, w.Lay(1, i, s))
			ends(fmt.Sprint(name, " at ", i), w, begun[i])
		}
	}
}

// TestPartsOfUnlikeLives has records of a life each; parts of one record have one.
func TestPartsOfUnlikeLives(t *testing.T) {
	w := made(t, 2, 7)
	for i, x := range []api.Stamp{at(2, 0, 9, 0, 1), at(2, 1, 3, 0, 2), at(2, 2, 3, 1, 2), at(2, 3, 8, 0, 3), at(2, 4, 8, 1, 3), at(2, 5, 8, 2, 3), at(2, 6, 1, 0, 1)} {
		laid(t, w, 0, x, string(rune('a'+i)))
	}
	stands(t, w, 0, state{gen: 2, used: 7}, "a", "bc", "def", "g")
}

// TestTheExtentEnds has a record that is whole at the extent's end, and one whose last part would stand beyond it.
func TestTheExtentEnds(t *testing.T) {
	for _, sectors := range []int{1, 2, 3, 7, api.MaxSectors - 1, api.MaxSectors} {
		for tail := range sectors {
			records := []string{}
			whole, half := made(t, 3, sectors), made(t, 3, sectors)
			for i := range tail {
				records = append(records, fmt.Sprint(i))
				laid(t, whole, 1, at(1, i, 2, 0, 1), records[i])
				laid(t, half, 1, at(1, i, 2, 0, 1), records[i])
			}
			parts := sectors - tail
			for i := range parts {
				laid(t, whole, 1, at(1, tail+i, 2, i, parts), "p")
			}
			stands(t, whole, 1, state{gen: 1, used: sectors}, append(slices.Clone(records), strings.Repeat("p", parts))...)
			if parts == api.MaxSectors {
				continue
			}
			for i := range parts {
				laid(t, half, 1, at(1, tail+i, 2, i, parts+1), "p")
			}
			if sectors < api.MaxSectors { // the next extent has what is missing
				s, err := sector.Pack(at(1, sectors, 2, parts, parts+1), "p")
				done(t, err, half.Lay(2, 0, s))
			}
			want := state{gen: 1, used: tail}
			if tail == 0 {
				want.gen = 0
			}
			stands(t, half, 1, want, records...)
		}
	}
}

// TestBytesOfRecords has parts of all kinds of lengths, also of short ones ahead of others, as no writer of a log makes them.
func TestBytesOfRecords(t *testing.T) {
	w := made(t, 2, api.MaxSectors)
	var records []string
	index := 0
	for _, parts := range [][]string{{""}, {"", "", ""}, {"a", "", "b"}, {long(api.MaxData), "c"}, {"\x00", "\xc1", "\x00"}, {"", long(api.MaxData)}, {"d"}} {
		for i, part := range parts {
			laid(t, w, 0, at(3, index, 1, i, len(parts)), part)
			index++
		}
		records = append(records, strings.Join(parts, ""))
	}
	stands(t, w, 0, state{gen: 3, used: index}, records...)
}

func TestWhatIsWetStandsToo(t *testing.T) {
	w := made(t, 2, 4)
	write := func(x api.Stamp, data string) {
		s, err := sector.Pack(x, data)
		done(t, err, w.Write(0, x.Index, s))
	}
	laid(t, w, 0, at(2, 0, 1, 0, 1), "old base")
	laid(t, w, 0, at(2, 1, 1, 0, 1), "old")
	write(at(2, 1, 4, 0, 1), "wet")
	write(at(2, 2, 3, 0, 1), "wet too")
	l := stands(t, w, 0, state{gen: 2, used: 3}, "old base", "wet", "wet too")
	moves(t, recordOf(t, l, ""), api.MoveMore)
	if x := stampOf(t, w, 0, 3); x.Life != 5 {
		t.Errorf("it lives in %d", x.Life)
	}
	done(t, w.Crash(nil), w.Start())
	stands(t, w, 0, state{gen: 2, used: 2}, "old base", "old")
	if life := lifeOf(t, w, 0); life != 2 {
		t.Errorf("it lives in %d, though that was lost", life)
	}
}

func TestLookingTurnsNothing(t *testing.T) {
	w := made(t, 4, 3)
	laid(t, w, 1, at(2, 0, 1, 0, 1), "base")
	done(t, w.Write(2, 1, "wet"), w.Write(0, 0, "wet"))
	before := picture(t, w)
	l, records := opened(t, w, 1)
	holds(t, l, 3, state{gen: 2, used: 1})
	records[0] = "turned"
	stands(t, w, 1, state{gen: 2, used: 1}, "base")
	x, y := recordOf(t, l, "x"), baseOf(t, stands(t, w, 1, state{gen: 2, used: 1}, "base"), "y")
	if picture(t, w) != before {
		t.Errorf("from %s to %s", before, picture(t, w))
	}
	moves(t, x, api.MoveMore)
	moves(t, y, api.MoveMore)
}

func TestTheLife(t *testing.T) {
	base := at(4, 0, 6, 0, 1)
	type on struct {
		extent int
		stamp  api.Stamp
	}
	for name, c := range map[string]struct {
		lay  []on
		want int
	}{
		"of nothing":                    {nil, 1},
		"of a base":                     {[]on{{0, base}}, 7},
		"of a base on the other one":    {[]on{{1, base}}, 7},
		"of a record":                   {[]on{{0, base}, {0, at(4, 1, 8, 0, 1)}}, 9},
		"of a record ahead":             {[]on{{0, base}, {0, at(4, 1, 5, 0, 1)}}, 7},
		"of a later part":               {[]on{{0, base}, {0, at(4, 1, 9, 0, 2)}, {0, at(4, 2, 9, 1, 2)}}, 10},
		"of a lone part":                {[]on{{0, base}, {0, at(4, 2, 12, 1, 2)}}, 13},
		"of half a record":              {[]on{{0, base}, {0, at(4, 1, 12, 0, 2)}}, 13},
		"of another generation":         {[]on{{0, base}, {0, at(3, 3, 12, 0, 1)}}, 13},
		"of a greater generation":       {[]on{{0, base}, {0, at(9, 3, 12, 0, 1)}}, 13},
		"of another index":              {[]on{{0, base}, {0, at(4, 3, 12, 0, 1)}}, 13},
		"at the end":                    {[]on{{0, base}, {0, at(1, 4, 12, 0, 1)}}, 13},
		"of the older log":              {[]on{{0, base}, {1, at(3, 0, 12, 0, 1)}}, 13},
		"of the older log's end":        {[]on{{0, base}, {1, at(3, 4, 12, 0, 1)}}, 13},
		"of the older log, if it's low": {[]on{{0, base}, {1, at(3, 4, 2, 0, 1)}}, 7},
		"of half a base":                {[]on{{0, base}, {1, at(5, 0, 12, 0, 2)}}, 13},
		"of what stands nowhere":        {[]on{{0, at(4, 3, 12, 2, 4)}}, 13},
		"there, on the other one":       {[]on{{1, at(4, 3, 12, 2, 4)}}, 13},
		"with greater ones ahead":       {[]on{{0, base}, {0, at(4, 1, 1<<20, 0, 1)}, {0, at(4, 2, 3, 0, 1)}, {1, at(1, 0, 5, 0, 1)}}, 1<<20 + 1},
		"of extents beside":             {[]on{{0, base}, {-1, at(4, 0, 50, 0, 1)}, {2, at(4, 0, 50, 0, 1)}}, 7},
		"the greatest but one":          {[]on{{0, base}, {0, at(4, 1, api.MaxGen-1, 0, 1)}}, api.MaxGen},
		"the greatest":                  {[]on{{0, base}, {0, at(4, 1, api.MaxGen, 0, 1)}}, 0},
		"the greatest, of no record":    {[]on{{0, base}, {1, at(1, 3, api.MaxGen, 5, 6)}}, 0},
		"the greatest, of no log":       {[]on{{1, at(1, 3, api.MaxGen, 5, 6)}}, 0},
	} {
		t.Run(name, func(t *testing.T) {
			const first = 1
			w := made(t, 4, 5)
			done(t, w.Lay(first, 2, "none"), w.Lay(first+1, 2, "none"))
			for _, x := range c.lay {
				laid(t, w, first+x.extent, x.stamp, "data")
			}
			if life := lifeOf(t, w, first); life != c.want {
				t.Errorf("it lives in %d, not %d", life, c.want)
			}
		})
	}
}

// TestTheLifeStays writes with several logs: each keeps the life that it was opened in.
func TestTheLifeStays(t *testing.T) {
	w := made(t, 2, 9)
	l, _ := opened(t, w, 0)
	based(t, l, "base")
	recorded(t, l, "one", lettered('a', 3))
	for i := range 5 {
		if x := stampOf(t, w, 0, i); x.Life != 1 {
			t.Errorf("sector %d has %+v", i, x)
		}
	}
	m, _ := opened(t, w, 0)
	recorded(t, m, "two")
	if x := stampOf(t, w, 0, 5); x.Life != 2 {
		t.Errorf("the second life has %+v", x)
	}
	laid(t, w, 1, at(1, 4, 70, 1, 2), "none")
	recorded(t, m, "three")
	based(t, m, lettered('g', 2))
	recorded(t, m, "four")
	for _, x := range []api.Stamp{stampOf(t, w, 0, 6), stampOf(t, w, 1, 0), stampOf(t, w, 1, 1), stampOf(t, w, 1, 2)} {
		if x.Life != 2 {
			t.Errorf("the second life has %+v", x)
		}
	}
	recorded(t, l, "late") // of the log that was opened first: behind all that it has itself
	if x := stampOf(t, w, 0, 5); x != at(1, 5, 1, 0, 1) {
		t.Errorf("the first life has %+v", x)
	}
	if life := lifeOf(t, w, 0); life != 71 {
		t.Errorf("the next one lives in %d", life)
	}
}
