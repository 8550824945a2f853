package seglog_test

import (
	"fmt"
	"math/rand"
	"slices"
	"strings"
	"testing"

	"cloisonne/api"
	"cloisonne/extent"
	"cloisonne/sector"
	"cloisonne/seglog"
)

// picksOf has a pick for each of so many sectors from an index on, whose bit is set.
func picksOf(on, from, sectors, bits int) []api.Pick {
	var picks []api.Pick
	for i := range sectors {
		if bits&(1<<i) != 0 {
			picks = append(picks, api.Pick{Extent: on, At: from + i})
		}
	}
	return picks
}

// P7.3

// TestCrashesBehindEachMove has the power go behind each move, with each choice of picks.
func TestCrashesBehindEachMove(t *testing.T) {
	for _, k := range kinds() {
		for parts := 1; k.fits(parts); parts++ {
			for n := range parts + 3 {
				for bits := range 1 << min(n, parts) {
					g := begun(t, k, parts)
					for range n {
						_, err := g.x.Move()
						done(t, err)
					}
					g.crashes(t, picksOf(g.on, g.from, parts, bits), n > parts || bits == 1<<parts-1)
					if t.Failed() {
						t.Fatalf("%s of %d, behind %d moves, picks %b", k.name, parts, n, bits)
					}
				}
			}
		}
	}
}

// crashes has the power go, and checks what is there: all that was, and what was under way, if it is whole. Then it goes on from there.
func (g writing) crashes(t *testing.T, picks []api.Pick, whole bool) {
	t.Helper()
	done(t, g.w.Crash(picks), g.w.Start())
	want, records := state{gen: g.before.gen, used: g.before.used}, g.records
	if whole {
		want, records = g.after, g.told
	}
	l := stands(t, g.w, place, want, records...)
	if l.Room(1) {
		recorded(t, l, "!")
		want.used++
		l = stands(t, g.w, place, want, append(slices.Clone(records), "!")...)
	}
	based(t, l, "next")
	done(t, g.w.Crash(nil), g.w.Start())
	stands(t, g.w, place, state{gen: want.gen + 1, used: 1}, "next")
}

// history is a world, and what its log is to have behind all that happened.
type history struct {
	w       *extent.World
	gen     int
	records []string
}

// copied is a history with a world of its own; nothing is wet there.
func (h history) copied(t testing.TB) history {
	t.Helper()
	w := made(t, h.w.Extents(), h.w.Sectors())
	for e := range w.Extents() {
		for i := range w.Sectors() {
			s, err := h.w.Dry(e, i)
			done(t, err, w.Lay(e, i, s))
		}
	}
	return history{w, h.gen, slices.Clone(h.records)}
}

// add is a record, or a base, that is whole.
func (h *history) add(base bool, s string) {
	if base {
		h.gen, h.records = h.gen+1, nil
	}
	h.records = append(h.records, s)
}

// room is how many parts a record, or a base, can have.
func (h history) room(base bool) int {
	switch {
	case base:
		return h.w.Sectors()
	case h.gen == 0:
		return 0
	}
	return h.w.Sectors() - used(h.records)
}

func (h history) opened(t testing.TB) *seglog.Log {
	t.Helper()
	return stands(t, h.w, 0, state{gen: h.gen, used: used(h.records)}, h.records...)
}

// crashed is a history in which the power goes while something is written, ahead of the flush, with picks of its parts.
func (h history) crashed(t testing.TB, base bool, s string, bits int) history {
	t.Helper()
	h = h.copied(t)
	l := h.opened(t)
	begin, on, from := l.Record, (h.gen+1)%2, used(h.records)
	if base {
		begin, on, from = l.Base, h.gen%2, 0
	}
	parts := sector.Count(len(s))
	moves(t, writerOf(t, begin, s), more(parts)...)
	done(t, h.w.Crash(picksOf(on, from, parts, bits)), h.w.Start())
	if bits == 1<<parts-1 {
		h.add(base, s)
	}
	return h
}

// ended is a history in which something is written, and the power goes behind.
func (h history) ended(t testing.TB, base bool, s string) history {
	t.Helper()
	h = h.copied(t)
	l := h.opened(t)
	if base {
		based(t, l, s)
	} else {
		recorded(t, l, s)
	}
	done(t, h.w.Crash(nil), h.w.Start())
	h.add(base, s)
	return h
}

// goOn goes through all ways in which so many lives can go: in each a record, or a base, of some number of parts is written to its end, or till the power goes, with each choice of picks. It tells how many ways there are.
func (h history) goOn(t testing.TB, lives int, bases ...bool) int {
	t.Helper()
	if lives == 0 {
		h.opened(t)
		return 1
	}
	ways := 0
	for _, base := range bases {
		for parts := 1; parts <= h.room(base); parts++ {
			s := lettered(byte(lives*20), parts) // no two lives have a letter in common
			for bits := range 1 << parts {
				ways += h.crashed(t, base, s, bits).goOn(t, lives-1, bases...)
			}
			ways += h.ended(t, base, s).goOn(t, lives-1, bases...)
		}
	}
	return ways
}

// TestHalfARecordNeverBecomesPartOfOne writes records over what earlier lives left.
func TestHalfARecordNeverBecomesPartOfOne(t *testing.T) {
	h := history{w: made(t, 2, 4)}.ended(t, true, "base")
	if ways := h.goOn(t, 4, false); ways < 25000 {
		t.Errorf("%d ways are too few", ways)
	}
}

// TestHalfABaseNeverBecomesPartOfOne writes bases over what earlier lives left on the other extent.
func TestHalfABaseNeverBecomesPartOfOne(t *testing.T) {
	h := history{w: made(t, 2, 3)}
	if ways := h.goOn(t, 4, true); ways < 80000 {
		t.Errorf("%d ways are too few", ways)
	}
}

func TestBasesAndRecordsThroughCrashes(t *testing.T) {
	h := history{w: made(t, 2, 3)}.ended(t, true, "base")
	if ways := h.goOn(t, 3, false, true); ways < 10000 {
		t.Errorf("%d ways are too few", ways)
	}
}

// TestHalfARecordByHand has two lives whose halves would make a whole one, if the life didn't tell them from each other.
func TestHalfARecordByHand(t *testing.T) {
	w := made(t, 2, 4)
	l, _ := opened(t, w, 0)
	based(t, l, "base")
	moves(t, recordOf(t, l, lettered('a', 2)), more(2)...)
	l, records := reopened(t, w, 0, api.Pick{Extent: 0, At: 2})
	if !slices.Equal(records, []string{"base"}) {
		t.Fatalf("%q", records)
	}
	moves(t, recordOf(t, l, lettered('A', 2)), more(2)...)
	reopened(t, w, 0, api.Pick{Extent: 0, At: 1})
	if one, two := stampOf(t, w, 0, 1), stampOf(t, w, 0, 2); one != at(1, 1, 2, 0, 2) || two != at(1, 2, 1, 1, 2) {
		t.Fatalf("%+v and %+v", one, two)
	}
	l = stands(t, w, 0, state{gen: 1, used: 1}, "base")
	recorded(t, l, "whole")
	stands(t, w, 0, state{gen: 1, used: 2}, "base", "whole")
}

// TestAWalkThroughCrashes goes by chance, through many lives of one world with several logs.
func TestAWalkThroughCrashes(t *testing.T) {
	for seed := range int64(30) {
		r := rand.New(rand.NewSource(seed))
		many := 1 + r.Intn(3)
		w := made(t, 2*many, 1+r.Intn(9))
		walks := make([]walk, many)
		for i := range walks {
			walks[i].first = 2 * i
			walks[i].open(t, w)
		}
		for range 1500 {
			if r.Intn(12) > 0 {
				walks[r.Intn(many)].step(t, r, w)
				continue
			}
			picked := map[api.Pick]bool{}
			var picks []api.Pick
			for e := range w.Extents() {
				for _, i := range w.Wet(e) {
					if p := (api.Pick{Extent: e, At: i}); r.Intn(3) > 0 {
						picks, picked[p] = append(picks, p), true
					}
				}
			}
			done(t, w.Crash(picks), w.Start())
			for i := range walks {
				walks[i].crash(picked)
				walks[i].open(t, w)
			}
		}
	}
}

// walk is a log of a world, what it is to have, and what is under way.
type walk struct {
	first   int
	l       *seglog.Log
	gen     int
	records []string

	x     *seglog.Writer // none, if nothing is under way
	base  bool
	s     string
	moved int
	wet   []api.Pick // the parts that are written and not flushed
}

func (k *walk) open(t testing.TB, w *extent.World) {
	t.Helper()
	k.l = stands(t, w, k.first, state{gen: k.gen, used: used(k.records)}, k.records...)
	k.x = nil
}

// crash takes what was under way, or leaves all of it.
func (k *walk) crash(picked map[api.Pick]bool) {
	parts := sector.Count(len(k.s))
	if k.x == nil || k.moved < parts {
		return
	}
	for _, p := range k.wet {
		if !picked[p] {
			return
		}
	}
	k.end()
}

// end adds what was under way.
func (k *walk) end() {
	if k.base {
		k.gen, k.records = k.gen+1, nil
	}
	k.records = append(k.records, k.s)
	k.x = nil
}

// step moves what is under way, or begins something.
func (k *walk) step(t testing.TB, r *rand.Rand, w *extent.World) {
	t.Helper()
	if k.x == nil {
		k.begin(t, r, w)
		return
	}
	parts := sector.Count(len(k.s))
	move, err := k.x.Move()
	want := api.MoveMore
	switch {
	case k.moved < parts && k.base:
		k.wet = append(k.wet, api.Pick{Extent: k.first + k.gen%2, At: k.moved})
	case k.moved < parts:
		k.wet = append(k.wet, api.Pick{Extent: k.first + (k.gen+1)%2, At: used(k.records) + k.moved})
	case k.moved == parts:
		k.wet = nil
	default:
		want = api.MoveDone
		k.end()
	}
	if move != want || err != api.OK {
		t.Fatalf("move %d of %d parts: %d, %d", k.moved, parts, move, err)
	}
	k.moved++
	holds(t, k.l, w.Sectors(), state{gen: k.gen, used: used(k.records), busy: k.x != nil})
}

func (k *walk) begin(t testing.TB, r *rand.Rand, w *extent.World) {
	t.Helper()
	k.base, k.moved, k.wet = r.Intn(4) == 0, 0, nil
	k.s = strings.Repeat(fmt.Sprint(r.Int(), " "), r.Intn(11)) // no two parts of two records are alike
	begin, want := k.l.Record, api.OK
	switch parts := sector.Count(len(k.s)); {
	case k.base:
		begin, want = k.l.Base, map[bool]api.Errno{true: api.ErrLog}[parts > w.Sectors()]
	case k.gen == 0:
		want = api.ErrNone
	case used(k.records)+parts > w.Sectors():
		want = api.ErrLog
	}
	if want != api.OK {
		refused(t, begin, k.s, want)
		return
	}
	k.x = writerOf(t, begin, k.s)
}

// Any sectors: what is opened is what the words say.

// found is what the words say of a log.
type found struct {
	state
	on      int
	life    int
	records []string
}

// sectorAt is what stands at an index of an extent; there is no sector elsewhere.
func sectorAt(w *extent.World, on, index int) (api.Stamp, string, bool) {
	s, err := w.Read(on, index)
	if err != api.OK {
		return api.Stamp{}, "", false
	}
	x, data, err := sector.Unpack(s)
	return x, data, err == api.OK
}

// wordsOf is what the words say of an extent: its generation, 0 if it doesn't stand; its records; and how many sectors these have.
func wordsOf(w *extent.World, on int) found {
	base, _, ok := sectorAt(w, on, 0)
	f := found{on: on, state: state{gen: base.Gen}}
	for ok {
		var head api.Stamp
		if head, _, ok = sectorAt(w, on, f.used); !ok || head.Gen != base.Gen || head.Index != f.used || head.Part != 0 {
			break
		}
		record := ""
		for part := range head.Parts {
			x, data, is := sectorAt(w, on, f.used+part)
			if !is || x.Gen != base.Gen || x.Index != f.used+part || x.Life != head.Life || x.Parts != head.Parts || x.Part != part {
				ok = false
				break
			}
			record += data
		}
		if ok {
			f.records, f.used = append(f.records, record), f.used+head.Parts
		}
	}
	if len(f.records) == 0 {
		f.gen = 0
	}
	return f
}

// wordsOfLog is what the words say of a log.
func wordsOfLog(w *extent.World, first int) found {
	f := wordsOf(w, first)
	if g := wordsOf(w, first+1); g.gen > f.gen {
		f = g
	}
	f.life = 1
	for _, on := range []int{first, first + 1} {
		for i := range w.Sectors() {
			if x, _, ok := sectorAt(w, on, i); ok {
				f.life = max(f.life, x.Life+1)
			}
		}
	}
	return f
}

// scattered lays, or writes, a sector by chance: most often one that goes on where the one ahead of it ends.
func scattered(t testing.TB, r *rand.Rand, w *extent.World, on, index int) {
	t.Helper()
	ahead, _, ok := sectorAt(w, on, index-1)
	x := at(1+r.Intn(2), index, 1+r.Intn(3), 0, 1+r.Intn(3))
	switch {
	case ok && ahead.Part+1 < ahead.Parts:
		x = at(ahead.Gen, index, ahead.Life, ahead.Part+1, ahead.Parts)
	case ok:
		x.Gen = ahead.Gen
	}
	switch r.Intn(40) {
	case 0:
		x.Gen = 1 + r.Intn(3)
	case 1:
		x.Index = r.Intn(w.Sectors())
	case 2:
		x.Life = 1 + r.Intn(4)
	case 3:
		x.Part = r.Intn(x.Parts)
	case 4:
		x.Parts = x.Part + 1 + r.Intn(3)
	case 5:
		done(t, w.Lay(on, index, "none"))
		return
	}
	s, err := sector.Pack(x, fmt.Sprint(r.Intn(1000)))
	if r.Intn(2) == 0 {
		done(t, err, w.Write(on, index, s))
	} else {
		done(t, err, w.Lay(on, index, s))
	}
}

func TestOfAnySectors(t *testing.T) {
	r := rand.New(rand.NewSource(7))
	logs := map[int]int{} // by how many records they have
	for range 20000 {
		w := made(t, 3, 1+r.Intn(8))
		first := r.Intn(2)
		for e := range w.Extents() {
			for i := range w.Sectors() {
				scattered(t, r, w, e, i)
			}
		}
		f := wordsOfLog(w, first)
		logs[len(f.records)]++
		l := stands(t, w, first, f.state, f.records...)
		on := first
		if f.gen != 0 && f.on == first {
			on = first + 1
		}
		if l.Room(1) {
			moves(t, recordOf(t, l, "!"), api.MoveMore)
			if x := stampOf(t, w, f.on, f.used); x != at(f.gen, f.used, f.life, 0, 1) {
				t.Fatalf("%+v: a record of %+v", f, x)
			}
		}
		m, _ := opened(t, w, first)
		g := wordsOfLog(w, first)
		based(t, m, "next")
		if x := stampOf(t, w, on, 0); x != at(g.gen+1, 0, g.life, 0, 1) {
			t.Fatalf("%+v: a base of %+v", g, x)
		}
	}
	for n := range 5 {
		if logs[n] < 100 {
			t.Errorf("%d logs have %d records: chance looks at one kind alone", logs[n], n)
		}
	}
}
