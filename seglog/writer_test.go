package seglog_test

import (
	"fmt"
	"math"
	"slices"
	"strings"
	"testing"
	"unsafe"

	"cloisonne/api"
	"cloisonne/extent"
	"cloisonne/sector"
	"cloisonne/seglog"
)

// A log of most tests is on the second and the third extent of a world of four, the first and the last of which have something wet.
const (
	place   = 1
	extents = 4
	sectors = 6
)

// kind is what is written: a record of a log that isn't fresh, or a base of one that is, or isn't.
type kind struct {
	name    string
	base    bool
	records []string // that the log has, the base first
}

func kinds() []kind {
	return []kind{
		{"a record", false, []string{"base"}},
		{"a record behind others", false, []string{lettered('A', 2), "more"}},
		{"a base of a fresh log", true, nil},
		{"a base", true, []string{"base"}},
		{"a base behind records", true, []string{"base", lettered('A', 3), "more"}},
	}
}

// used is how many sectors records have.
func used(records []string) int {
	n := 0
	for _, s := range records {
		n += sector.Count(len(s))
	}
	return n
}

// grown is a world and a log that has records.
func grown(t testing.TB, records []string) (*extent.World, *seglog.Log) {
	t.Helper()
	w := made(t, extents, sectors)
	l, _ := opened(t, w, place)
	if len(records) != 0 {
		based(t, l, records[0])
		recorded(t, l, records[1:]...)
	}
	done(t, w.Write(0, 2, "wet"), w.Write(extents-1, 3, "wet"))
	return w, l
}

// writing is a world, a log, and a new writer of one of the kinds, as well as what is to come of it.
type writing struct {
	kind
	w      *extent.World
	l      *seglog.Log
	x      *seglog.Writer
	s      string
	parts  int
	on     int // the extent that it writes to
	from   int // the index
	gen    int
	before state
	after  state
	told   []string // the records behind it
}

func begun(t testing.TB, k kind, parts int) writing {
	t.Helper()
	w, l := grown(t, k.records)
	g := writing{kind: k, w: w, l: l, s: lettered('a', parts), parts: parts}
	if len(k.records) != 0 {
		g.before = state{gen: 1, used: used(k.records)}
	}
	if k.base {
		g.gen, g.on = g.before.gen+1, place+g.before.gen%2
		g.told, g.x = []string{g.s}, baseOf(t, l, g.s)
	} else {
		g.gen, g.on, g.from = g.before.gen, place, g.before.used
		g.told, g.x = append(slices.Clone(k.records), g.s), recordOf(t, l, g.s)
	}
	g.after = state{gen: g.gen, used: used(g.told)}
	g.before.busy = true
	return g
}

// fits tells whether a log has room for a record, or an extent for a base.
func (k kind) fits(parts int) bool {
	return k.base && parts <= sectors || !k.base && used(k.records)+parts <= sectors
}

// each does something with a new writer of each kind, and of each number of parts that has room.
func each(t *testing.T, do func(t *testing.T, g writing)) {
	for _, k := range kinds() {
		for parts := 1; k.fits(parts); parts++ {
			t.Run(fmt.Sprint(k.name, " of ", parts), func(t *testing.T) { do(t, begun(t, k, parts)) })
		}
	}
}

// wrote checks which sectors of its extent a writer has written, and that they are wet.
func (g writing) wrote(t testing.TB, n int) {
	t.Helper()
	var want []int
	for i := range n {
		want = append(want, g.from+i)
	}
	if wet := g.w.Wet(g.on); !slices.Equal(wet, want) {
		t.Fatalf("behind %d moves %v is wet", n, wet)
	}
	g.bears(t, n)
}

// bears checks the first sectors that a writer has written.
func (g writing) bears(t testing.TB, n int) {
	t.Helper()
	const life = 1 // nothing stood there when the log was opened
	for i, part := range sector.Parts(g.s)[:n] {
		want, err := sector.Pack(at(g.gen, g.from+i, life, i, g.parts), part)
		done(t, err)
		if s, err := g.w.Read(g.on, g.from+i); s != want || err != api.OK {
			t.Fatalf("part %d is %q, %d, not %q", i, s, err, want)
		}
	}
}

// others is all that can be told of the extents that a writer doesn't write to.
func (g writing) others(t testing.TB) string {
	t.Helper()
	s := ""
	for e := range extents {
		for i := range sectors {
			if e != g.on {
				last, _ := g.w.Read(e, i)
				dry, _ := g.w.Dry(e, i)
				s += fmt.Sprintf("%q %q %v\n", last, dry, g.w.Wet(e))
			}
		}
	}
	return s
}

// P7.2: moves

func TestMoves(t *testing.T) {
	each(t, func(t *testing.T, g writing) {
		done(t, g.w.Write(2*place+1-g.on, sectors-1, "wet")) // on the log's other extent, behind all that it has
		others := g.others(t)
		for n := range g.parts {
			g.wrote(t, n)
			holds(t, g.l, sectors, g.before)
			moves(t, g.x, api.MoveMore)
		}
		g.wrote(t, g.parts)
		holds(t, g.l, sectors, g.before)
		moves(t, g.x, api.MoveMore)
		flushed := picture(t, g.w)
		if wet := g.w.Wet(g.on); len(wet) != 0 {
			t.Fatalf("behind the flush %v is wet", wet)
		}
		g.bears(t, g.parts)
		holds(t, g.l, sectors, g.before)
		for range 3 {
			moves(t, g.x, api.MoveDone)
			holds(t, g.l, sectors, g.after)
		}
		if picture(t, g.w) != flushed {
			t.Error("the last move asks something of the world")
		}
		if g.others(t) != others {
			t.Error("another extent is turned")
		}
		stands(t, g.w, place, g.after, g.told...)
	})
}

// TestMovesTouchNoMoreThanTheirSectors has texts in all sectors that aren't written.
func TestMovesTouchNoMoreThanTheirSectors(t *testing.T) {
	each(t, func(t *testing.T, g writing) {
		text := func(i int) string { return fmt.Sprint("text ", i) }
		for i := range sectors {
			done(t, g.w.Lay(g.on, i, text(i)))
		}
		ended(t, g.x, g.s)
		g.bears(t, g.parts)
		for i := range sectors {
			s, _ := g.w.Read(g.on, i)
			if in := i >= g.from && i < g.from+g.parts; !in && s != text(i) {
				t.Errorf("sector %d is %q", i, s)
			}
		}
	})
}

func TestMovesWhileOff(t *testing.T) {
	each(t, func(t *testing.T, g writing) {
		for n := range g.parts + 1 {
			done(t, g.w.Crash(nil))
			before := picture(t, g.w)
			down(t, g.x)
			holds(t, g.l, sectors, g.before)
			if picture(t, g.w) != before {
				t.Fatal("a move turned a world that is off")
			}
			done(t, g.w.Start())
			if n < g.parts { // the next part, or, behind all, the flush
				moves(t, g.x, api.MoveMore)
				if wet := g.w.Wet(g.on); !slices.Equal(wet, []int{g.from + n}) {
					t.Fatalf("the next move behind %d wrote %v", n, wet)
				}
			}
		}
		done(t, g.w.Write(g.on, 5, "wet"))
		moves(t, g.x, api.MoveMore)
		if s, err := g.w.Dry(g.on, 5); s != "wet" || err != api.OK {
			t.Fatalf("the flush left %q, %d", s, err)
		}
		holds(t, g.l, sectors, g.before)
		done(t, g.w.Crash(nil))
		for range 3 { // nothing is asked of the world
			moves(t, g.x, api.MoveDone)
			holds(t, g.l, sectors, g.after)
		}
		if g.w.On() {
			t.Error("it is on")
		}
		done(t, g.w.Start())
		moves(t, g.x, api.MoveDone)
		holds(t, g.l, sectors, g.after)
	})
}

// TestAWriterThatIsDoneStaysSo has others begin behind it.
func TestAWriterThatIsDoneStaysSo(t *testing.T) {
	w, l := grown(t, nil)
	first := baseOf(t, l, "base")
	ended(t, first, "base")
	second := recordOf(t, l, "more")
	moves(t, first, api.MoveDone)
	holds(t, l, sectors, state{gen: 1, used: 1, busy: true})
	ended(t, second, "more")
	third := baseOf(t, l, "next")
	moves(t, third, api.MoveMore)
	moves(t, first, api.MoveDone)
	moves(t, second, api.MoveDone)
	holds(t, l, sectors, state{gen: 1, used: 2, busy: true})
	moves(t, third, api.MoveMore, api.MoveDone)
	for _, x := range []*seglog.Writer{first, second, third, first} {
		moves(t, x, api.MoveDone)
		holds(t, l, sectors, state{gen: 2, used: 1})
	}
	stands(t, w, place, state{gen: 2, used: 1}, "next")
}

func TestBasesTakeTurns(t *testing.T) {
	w, l := grown(t, nil)
	for gen := 1; gen <= 9; gen++ {
		base, more := lettered('a', 1+gen%4), lettered('A', gen%3+1)
		based(t, l, base)
		holds(t, l, sectors, state{gen: gen, used: 1 + gen%4})
		if used([]string{base, more}) <= sectors {
			recorded(t, l, more)
			stands(t, w, place, state{gen: gen, used: used([]string{base, more})}, base, more)
		}
		if x := stampOf(t, w, place+1-gen%2, 0); x.Gen != gen {
			t.Fatalf("base %d isn't on its extent: %+v", gen, x)
		}
		if gen%4 == 0 { // what is opened goes on by the same turns
			l, _ = opened(t, w, place)
		}
	}
}

func TestRecordsOfAllLengths(t *testing.T) {
	for n := range api.MaxData*4 + 3 {
		for _, fill := range []string{"x", "\x00", "\xc1", "\xff"} {
			s := strings.Repeat(fill, n)
			w := made(t, 2, 10)
			l, _ := opened(t, w, 0)
			based(t, l, s)
			recorded(t, l, s)
			count := 2 * sector.Count(n)
			holds(t, l, 10, state{gen: 1, used: count})
			stands(t, w, 0, state{gen: 1, used: count}, s, s)
		}
	}
}

func TestRecordsOfAllBytes(t *testing.T) {
	all := ""
	for c := range 256 {
		all += string([]byte{byte(c)})
	}
	w := made(t, 2, 20)
	l, _ := opened(t, w, 0)
	based(t, l, all)
	recorded(t, l, "", all+all, "")
	stands(t, w, 0, state{gen: 1, used: 6 + 1 + 11 + 1}, all, "", all+all, "")
}

func TestAsManyPartsAsThereAre(t *testing.T) {
	const most = api.MaxSectors
	w := made(t, 2, most)
	l, _ := opened(t, w, 0)
	full := lettered('a', most-1)
	full = full[:(most-2)*api.MaxData] + long(api.MaxData)
	refused(t, l.Base, full+long(api.MaxData+1), api.ErrLog)
	based(t, l, full+long(api.MaxData))
	holds(t, l, most, state{gen: 1, used: most})
	refused(t, l.Record, "", api.ErrLog)
	l = stands(t, w, 0, state{gen: 1, used: most}, full+long(api.MaxData))
	based(t, l, "base")
	refused(t, l.Record, full+"!", api.ErrLog)
	recorded(t, l, full)
	holds(t, l, most, state{gen: 2, used: most})
	stands(t, w, 0, state{gen: 2, used: most}, "base", full)
}

// P7.1: Used, Gen, Room, Busy

func TestRoom(t *testing.T) {
	w := made(t, 2, 4)
	l, _ := opened(t, w, 0)
	room := func(want map[int]bool) {
		t.Helper()
		for n, is := range want {
			if l.Room(n) != is {
				t.Errorf("%d sectors used: room for %d: %v", l.Used(), n, !is)
			}
		}
	}
	never := map[int]bool{math.MinInt: false, math.MinInt + 1: false, -50: false, -1: false, 201: false, 250: false, 1 << 32: false, math.MaxInt32: false, math.MaxInt - 1: false, math.MaxInt: false}
	room(never)
	room(map[int]bool{0: false, 1: false, 200: false})
	based(t, l, "base")
	room(never)
	room(map[int]bool{0: true, 1: true, 50: true, 51: true, 149: true, 150: true, 151: false, 200: false})
	x := recordOf(t, l, long(51)) // until it is done it counts for nothing
	room(map[int]bool{0: true, 150: true, 151: false})
	moves(t, x, more(3)...)
	room(map[int]bool{0: true, 150: true, 151: false})
	moves(t, x, api.MoveDone)
	room(never)
	room(map[int]bool{0: true, 49: true, 50: true, 51: false, 100: false})
	done(t, w.Crash(nil)) // it asks nothing of the world
	room(map[int]bool{0: true, 50: true, 51: false, -1: false})
	done(t, w.Start())
	recorded(t, l, "")
	room(never)
	room(map[int]bool{0: false, 1: false, 50: false})
	based(t, l, long(200))
	room(map[int]bool{0: false, 1: false})
	based(t, l, long(101))
	room(map[int]bool{0: true, 50: true, 51: false})
}

// TestRoomIsWhatRecordTakes holds Room against Record, for each length, at each number of used sectors.
func TestRoomIsWhatRecordTakes(t *testing.T) {
	for _, many := range []int{1, 2, 5} {
		for use := 1; use <= many; use++ {
			w := made(t, 2, many)
			l, _ := opened(t, w, 0)
			based(t, l, long(use*api.MaxData))
			for n := range (many + 2) * api.MaxData {
				room := n <= (many-use)*api.MaxData && use < many
				if l.Room(n) != room {
					t.Fatalf("%d of %d used: room for %d: %v", use, many, n, !room)
				}
				if !room {
					refused(t, l.Record, long(n), api.ErrLog)
					continue
				}
				m, _ := reopened(t, w, 0)
				moves(t, recordOf(t, m, long(n)), api.MoveMore)
			}
		}
	}
}

func TestBusyTillTheLastMove(t *testing.T) {
	each(t, func(t *testing.T, g writing) {
		for range g.parts + 1 {
			if !g.l.Busy() {
				t.Fatal("it isn't busy")
			}
			refused(t, g.l.Record, "x", api.ErrBusy)
			refused(t, g.l.Base, "x", api.ErrBusy)
			moves(t, g.x, api.MoveMore)
		}
		if !g.l.Busy() {
			t.Fatal("it isn't busy behind the flush")
		}
		moves(t, g.x, api.MoveDone)
		if g.l.Busy() {
			t.Fatal("it is busy though nobody writes")
		}
		based(t, g.l, "next")
	})
}

// TestALogStaysBusyBehindACrash has the writer stay, too; the log that is opened anew isn't.
func TestALogStaysBusyBehindACrash(t *testing.T) {
	each(t, func(t *testing.T, g writing) {
		moves(t, g.x, api.MoveMore)
		done(t, g.w.Crash(nil))
		holds(t, g.l, sectors, g.before)
		done(t, g.w.Start())
		holds(t, g.l, sectors, g.before)
		refused(t, g.l.Base, "x", api.ErrBusy)
		m := stands(t, g.w, place, state{gen: g.before.gen, used: g.before.used}, g.records...)
		based(t, m, "next")
	})
}

// P7.2: which error is told

// setting is a log as it is opened, and what of Record and Base hangs on it.
type setting struct {
	name    string
	fresh   bool
	used    int
	genEnd  bool // no generation is left
	lifeEnd bool // no life is left
	lay     func(t testing.TB, w *extent.World)
}

func settings() []setting {
	lay := func(stamps ...api.Stamp) func(t testing.TB, w *extent.World) {
		return func(t testing.TB, w *extent.World) {
			for _, x := range stamps {
				laid(t, w, place, x, "data")
			}
		}
	}
	const end = api.MaxGen
	return []setting{
		{"fresh", true, 0, false, false, lay()},
		{"fresh, the last life but one", true, 0, false, false, lay(at(5, 3, end-1, 0, 1))},
		{"fresh, no life left", true, 0, false, true, lay(at(5, 3, end, 0, 1))},
		{"of one sector", false, 1, false, false, lay(at(5, 0, 6, 0, 1))},
		{"of all", false, 4, false, false, lay(at(5, 0, 6, 0, 1), at(5, 1, 7, 0, 1), at(5, 2, 8, 0, 2), at(5, 3, 8, 1, 2))},
		{"the last life but one", false, 2, false, false, lay(at(5, 0, 6, 0, 1), at(5, 1, end-1, 0, 1))},
		{"no life left", false, 2, false, true, lay(at(5, 0, 6, 0, 1), at(5, 1, end, 0, 1))},
		{"no life left, of another one", false, 1, false, true, lay(at(5, 0, 6, 0, 1), at(4, 3, end, 2, 9))},
		{"no life left, of all", false, 4, false, true, lay(at(5, 0, end, 0, 4), at(5, 1, end, 1, 4), at(5, 2, end, 2, 4), at(5, 3, end, 3, 4))},
		{"the last generation but one", false, 1, false, false, lay(at(end-1, 0, 6, 0, 1))},
		{"no generation left", false, 1, true, false, lay(at(end, 0, 6, 0, 1))},
		{"no generation left, of all", false, 4, true, false, lay(at(end, 0, 6, 0, 1), at(end, 1, 6, 0, 1), at(end, 2, 6, 0, 1), at(end, 3, 6, 0, 1))},
		{"neither left", false, 1, true, true, lay(at(end, 0, end, 0, 1))},
	}
}

// record and base tell the error of a number of bytes, by the words.
func (c setting) record(n int) api.Errno {
	switch {
	case c.fresh:
		return api.ErrNone
	case c.used+sector.Count(n) > 4:
		return api.ErrLog
	case c.lifeEnd:
		return api.ErrSeq
	}
	return api.OK
}

func (c setting) base(n int) api.Errno {
	switch {
	case sector.Count(n) > 4:
		return api.ErrLog
	case c.lifeEnd || c.genEnd:
		return api.ErrSeq
	}
	return api.OK
}

func TestErrors(t *testing.T) {
	for _, c := range settings() {
		for _, n := range []int{0, 1, 50, 51, 99, 100, 101, 149, 150, 151, 200, 201, 251, 5000, 1 << 20} {
			for _, off := range []bool{false, true} { // nothing is asked of the world
				for _, base := range []bool{false, true} {
					t.Run(fmt.Sprintf("%s, %d bytes, off %v, base %v", c.name, n, off, base), func(t *testing.T) { c.begins(t, n, off, base) })
				}
			}
		}
	}
}

// begins checks what a log tells of a record, or a base, of n bytes: first, and while it has a writer.
func (c setting) begins(t *testing.T, n int, off, base bool) {
	w := made(t, extents, 4)
	c.lay(t, w)
	l, _ := opened(t, w, place)
	before := state{gen: l.Gen(), used: c.used}
	holds(t, l, 4, before)
	if off {
		done(t, w.Crash(nil))
	}
	pictured := picture(t, w)
	begin, want := l.Record, c.record(n)
	if base {
		begin, want = l.Base, c.base(n)
	}
	if want != api.OK {
		refused(t, begin, long(n), want)
		holds(t, l, 4, before)
	} else {
		x := writerOf(t, begin, long(n))
		for _, size := range []int{0, n, 201, 5000} {
			refused(t, l.Record, long(size), api.ErrBusy)
			refused(t, l.Base, long(size), api.ErrBusy)
		}
		holds(t, l, 4, state{before.gen, before.used, true})
		if off {
			down(t, x)
		}
	}
	if picture(t, w) != pictured {
		t.Error("the world is turned")
	}
}

// TestTheLastOnesAreWritten writes in the last life, and the base of the last generation.
func TestTheLastOnesAreWritten(t *testing.T) {
	w := made(t, 2, 4)
	laid(t, w, 0, at(api.MaxGen-1, 0, api.MaxGen-1, 0, 1), "old")
	l, _ := opened(t, w, 0)
	recorded(t, l, "more", "more still")
	based(t, l, "last")
	refused(t, l.Base, "x", api.ErrSeq)
	recorded(t, l, "behind")
	refused(t, l.Base, "x", api.ErrSeq)
	for i, x := range []api.Stamp{stampOf(t, w, 0, 1), stampOf(t, w, 0, 2), stampOf(t, w, 1, 0), stampOf(t, w, 1, 1)} {
		if want := at(api.MaxGen-1+i/2, []int{1, 2, 0, 1}[i], api.MaxGen, 0, 1); x != want {
			t.Errorf("%+v, not %+v", x, want)
		}
	}
	l = stands(t, w, 0, state{gen: api.MaxGen, used: 2}, "last", "behind")
	refused(t, l.Record, "x", api.ErrSeq)
	refused(t, l.Base, "x", api.ErrSeq)
}

// TestWhatFailsTurnsNothing goes on behind each error as if it hadn't been.
func TestWhatFailsTurnsNothing(t *testing.T) {
	w := made(t, 2, 4)
	l, _ := opened(t, w, 0)
	refused(t, l.Record, "x", api.ErrNone)
	refused(t, l.Base, long(201), api.ErrLog)
	holds(t, l, 4, state{})
	based(t, l, "base")
	refused(t, l.Record, long(151), api.ErrLog)
	refused(t, l.Base, long(201), api.ErrLog)
	holds(t, l, 4, state{gen: 1, used: 1})
	x := recordOf(t, l, "more")
	refused(t, l.Record, "x", api.ErrBusy)
	moves(t, x, api.MoveMore)
	refused(t, l.Base, "x", api.ErrBusy)
	moves(t, x, api.MoveMore, api.MoveDone)
	holds(t, l, 4, state{gen: 1, used: 2})
	stands(t, w, 0, state{gen: 1, used: 2}, "base", "more")
}

func TestNobody(t *testing.T) {
	var l *seglog.Log
	for range 2 {
		for _, n := range []int{0, 1, 50, 6400, 6401} {
			refused(t, l.Record, long(n), api.ErrNil)
			refused(t, l.Base, long(n), api.ErrNil)
		}
		for _, n := range []int{math.MinInt, -1, 0, 1, 50, math.MaxInt} {
			if l.Room(n) {
				t.Errorf("no log has room for %d", n)
			}
		}
		if l.Used() != 0 || l.Gen() != 0 || l.Busy() {
			t.Errorf("no log tells %d, %d, %v", l.Used(), l.Gen(), l.Busy())
		}
		var x *seglog.Writer
		if v, err := x.Move(); v != api.MoveNone || err != api.ErrNil {
			t.Errorf("no writer moves: %d, %d", v, err)
		}
	}
}

// What others lay counts when a log is opened anew.

func TestWhatOthersLay(t *testing.T) {
	others := map[string]func(w *extent.World){
		"nothing": func(*extent.World) {},
		"a greater log": func(w *extent.World) {
			laid(t, w, 1, at(9, 0, 3, 0, 1), "other")
			laid(t, w, 1, at(9, 1, 3, 0, 1), "more")
		},
		"a greater base":   func(w *extent.World) { laid(t, w, 0, at(9, 0, 3, 0, 1), "other") },
		"another record":   func(w *extent.World) { laid(t, w, 0, at(1, 2, 3, 0, 1), "other") },
		"none at its base": func(w *extent.World) { done(t, w.Lay(0, 0, "")) },
		"none at its end":  func(w *extent.World) { done(t, w.Lay(0, 1, "text")) },
		"the last life":    func(w *extent.World) { laid(t, w, 1, at(1, 3, api.MaxGen, 0, 1), "other") },
		"wet ones": func(w *extent.World) {
			s, _ := sector.Pack(at(9, 0, 3, 0, 1), "other")
			done(t, w.Write(0, 0, s), w.Write(1, 0, s))
		},
		"a full log": func(w *extent.World) {
			for i := range 4 {
				laid(t, w, 0, at(1, i, 1, 0, 1), "other")
			}
		},
	}
	for name, lay := range others {
		t.Run(name, func(t *testing.T) {
			w := made(t, 2, 4)
			l, _ := opened(t, w, 0)
			based(t, l, "base")
			recorded(t, l, "more")
			lay(w)
			holds(t, l, 4, state{gen: 1, used: 2})
			recorded(t, l, "late")
			holds(t, l, 4, state{gen: 1, used: 3})
			if x := stampOf(t, w, 0, 2); x != at(1, 2, 1, 0, 1) {
				t.Errorf("the record has %+v", x)
			}
			lay(w)
			holds(t, l, 4, state{gen: 1, used: 3})
			based(t, l, "next")
			holds(t, l, 4, state{gen: 2, used: 1})
			if x := stampOf(t, w, 1, 0); x != at(2, 0, 1, 0, 1) {
				t.Errorf("the base has %+v", x)
			}
		})
	}
}

func TestWhatOthersLayIsToldAnew(t *testing.T) {
	w := made(t, 2, 4)
	l, _ := opened(t, w, 0)
	laid(t, w, 1, at(9, 0, 3, 0, 1), "other")
	laid(t, w, 1, at(9, 1, 3, 0, 1), "more")
	holds(t, l, 4, state{})
	refused(t, l.Record, "x", api.ErrNone)
	based(t, l, "base")
	holds(t, l, 4, state{gen: 1, used: 1})
	m := stands(t, w, 0, state{gen: 9, used: 2}, "other", "more") // the greater one
	based(t, m, "next")
	stands(t, w, 0, state{gen: 10, used: 1}, "next")
	recorded(t, l, "late") // the first one's record goes where its own base was
	stands(t, w, 0, state{gen: 10, used: 1}, "next")
}

// TestWhatOthersLayWhileItIsWritten turns a sector that is written already: it isn't written once more.
func TestWhatOthersLayWhileItIsWritten(t *testing.T) {
	each(t, func(t *testing.T, g writing) {
		moves(t, g.x, api.MoveMore)
		done(t, g.w.Lay(g.on, g.from, "other"))
		moves(t, g.x, append(more(g.parts), api.MoveDone)...)
		holds(t, g.l, sectors, g.after)
		if s, err := g.w.Read(g.on, g.from); s != "other" || err != api.OK {
			t.Fatalf("%q, %d", s, err)
		}
		stands(t, g.w, place, state{gen: g.before.gen, used: g.before.used}, g.records...)
	})
}

func TestLogsOfOneWorldAreApart(t *testing.T) {
	const many = 5
	w := made(t, 2*many, 4)
	var logs []*seglog.Log
	for i := range many {
		l, _ := opened(t, w, 2*i)
		logs = append(logs, l)
	}
	var writers []*seglog.Writer
	for i, l := range logs {
		for gen := range i {
			based(t, l, fmt.Sprint("base ", gen))
		}
		writers = append(writers, baseOf(t, l, lettered('a'+byte(i), 3)))
	}
	for range 5 {
		for i := range writers {
			writers[len(writers)-1-i].Move()
		}
	}
	for i, l := range logs {
		holds(t, l, 4, state{gen: i + 1, used: 3})
		recorded(t, l, fmt.Sprint("more ", i))
		stands(t, w, 2*i, state{gen: i + 1, used: 4}, lettered('a'+byte(i), 3), fmt.Sprint("more ", i))
	}
	x := baseOf(t, logs[2], "next")
	moves(t, x, api.MoveMore) // of another one the flush leaves it wet
	based(t, logs[1], "next")
	based(t, logs[3], "next")
	done(t, w.Crash(nil), w.Start())
	stands(t, w, 4, state{gen: 3, used: 4}, lettered('c', 3), "more 2")
	stands(t, w, 2, state{gen: 3, used: 1}, "next")
}

// What is handed in isn't kept, and what is answered is new memory (rule 3).

func TestWhatIsHandedInIsNotKept(t *testing.T) {
	for _, n := range []int{1, api.MaxData, api.MaxData + 1, 3 * api.MaxData} {
		w := made(t, 2, 8)
		l, _ := opened(t, w, 0)
		want := strings.Repeat("a", n)
		bytes := []byte(want)
		s := unsafe.String(&bytes[0], n)
		base := baseOf(t, l, s)
		for i := range bytes {
			bytes[i] = 'b'
		}
		ended(t, base, want)
		for i := range bytes {
			bytes[i] = 'a'
		}
		x := recordOf(t, l, s)
		clear(bytes)
		ended(t, x, want)
		stands(t, w, 0, state{gen: 1, used: 2 * sector.Count(n)}, want, want)
	}
}

func TestRecordsAreNewMemory(t *testing.T) {
	w, _ := grown(t, []string{"base", lettered('a', 2), "more"})
	_, one := opened(t, w, place)
	_, two := opened(t, w, place)
	for i, s := range slices.Concat(one, two) {
		for j, other := range slices.Concat(one, two) {
			if i != j && unsafe.StringData(s) == unsafe.StringData(other) {
				t.Errorf("records %d and %d share", i, j)
			}
		}
	}
	clear(one[:cap(one)])
	stands(t, w, place, state{gen: 1, used: 4}, two...)
}

func ExampleOpen() {
	w, _ := extent.New(2, 4)
	l, records, err := seglog.Open(w, 0)
	fmt.Println(len(records), l.Gen(), l.Used(), err)
	x, _ := l.Base("abc")
	for range 3 {
		move, err := x.Move()
		fmt.Println(move == api.MoveDone, err, l.Used())
	}
	_, records, _ = seglog.Open(w, 0)
	fmt.Println(records)
	// Output:
	// 0 0 0 0
	// false 0 0
	// false 0 0
	// true 0 1
	// [abc]
}
