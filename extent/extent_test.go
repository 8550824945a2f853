package extent_test

import (
	"fmt"
	"math"
	"math/rand"
	"slices"
	"strings"
	"testing"
	"unsafe"

	"cloisonne/api"
	"cloisonne/extent"
)

// The world of most tests has this many extents, and sectors.
const (
	extents = 2
	sectors = 3
)

func long(n int) string { return strings.Repeat("x", n) }

func made(t *testing.T, extents, sectors int) *extent.World {
	t.Helper()
	w, err := extent.New(extents, sectors)
	if w == nil || err != api.OK {
		t.Fatalf("a world of %d extents of %d sectors: %v, %d", extents, sectors, w, err)
	}
	return w
}

// done checks that calls went well.
func done(t *testing.T, errs ...api.Errno) {
	t.Helper()
	for i, err := range errs {
		if err != api.OK {
			t.Fatalf("call %d: %d", i, err)
		}
	}
}

// state is what can be told of a sector.
type state struct {
	last, dry string
	wet       bool
}

// holds checks what a world tells of a sector; what was written last isn't told while it is off.
func holds(t *testing.T, w *extent.World, extent, at int, want state) {
	t.Helper()
	wantErr := api.OK
	if !w.On() {
		want.last, wantErr = "", api.ErrDown
	}
	if s, err := w.Read(extent, at); s != want.last || err != wantErr {
		t.Errorf("sector %d of %d: reads %q, %d, not %q, %d", at, extent, s, err, want.last, wantErr)
	}
	if s, err := w.Dry(extent, at); s != want.dry || err != api.OK {
		t.Errorf("sector %d of %d: dry %q, %d, not %q", at, extent, s, err, want.dry)
	}
	if wet := slices.Contains(w.Wet(extent), at); wet != want.wet {
		t.Errorf("sector %d of %d: wet %v", at, extent, wet)
	}
}

// picture is all that can be told of a world: of each sector its state, by extents.
type picture struct {
	on      bool
	sectors [][]state
	wet     [][]int
}

func pictureOf(w *extent.World) picture {
	p := picture{on: w.On()}
	for e := range w.Extents() {
		var l []state
		wet := w.Wet(e)
		for at := range w.Sectors() {
			last, _ := w.Read(e, at)
			dry, _ := w.Dry(e, at)
			l = append(l, state{last, dry, slices.Contains(wet, at)})
		}
		p.sectors, p.wet = append(p.sectors, l), append(p.wet, wet)
	}
	return p
}

func (p picture) is(q picture) bool {
	return p.on == q.on && slices.EqualFunc(p.sectors, q.sectors, slices.Equal) && slices.EqualFunc(p.wet, q.wet, slices.Equal)
}

// mixed has a dry sector, a wet one, one that is wet and dry, in each of the extents; other ones are empty.
func mixed(t *testing.T) *extent.World {
	t.Helper()
	w := made(t, extents, sectors)
	for e := range extents {
		done(t, w.Write(e, 0, "dry"), w.Write(e, 1, "old"), w.Flush(e), w.Write(e, 1, "new"), w.Write(e, 2, "wet"))
	}
	return w
}

// off is mixed behind a crash that one of its wet sectors was picked at.
func off(t *testing.T) *extent.World {
	t.Helper()
	w := mixed(t)
	done(t, w.Crash([]api.Pick{{Extent: 0, At: 1}}))
	return w
}

// lengths has numbers of bytes that fit, and others.
func lengths() []int {
	return []int{0, 1, api.SectorBytes - 1, api.SectorBytes, api.SectorBytes + 1, api.SectorBytes + 2, 127, 128, 255, 256, 256 + api.SectorBytes, 5000}
}

// places has numbers from 0 on that are below n, and others.
func places(n int) []int {
	l := []int{math.MinInt, math.MinInt32, -n, -2, -1, n, n + 1, 255, 256, 1 << 32, math.MaxInt32, math.MaxInt}
	for i := range n {
		l = append(l, i)
	}
	return l
}

func within(i, n int) bool { return i >= 0 && i < n }

// P5.1

func TestNew(t *testing.T) {
	for _, x := range [][2]int{{1, 1}, {1, api.MaxSectors}, {api.MaxExtents, 1}, {api.MaxExtents, api.MaxSectors}, {2, 3}, {3, 2}, {18, 77}} {
		w := made(t, x[0], x[1])
		if !w.On() || w.Extents() != x[0] || w.Sectors() != x[1] {
			t.Errorf("%v: on %v, %d extents of %d sectors", x, w.On(), w.Extents(), w.Sectors())
		}
		for e := range x[0] {
			for at := range x[1] {
				holds(t, w, e, at, state{})
			}
			if l := w.Wet(e); len(l) != 0 {
				t.Errorf("%v: wet %v", x, l)
			}
		}
	}
}

func TestNewOfAllNumbers(t *testing.T) {
	extremes := []int{math.MinInt, math.MinInt32, math.MaxInt32, math.MaxInt, 1<<32 + 1, 1 << 32, 257}
	for n := -300; n <= 300; n++ {
		extremes = append(extremes, n)
	}
	for _, n := range extremes {
		for _, x := range [][2]int{{n, 1}, {1, n}, {n, 2}, {2, n}, {n, n}, {n, 0}, {0, n}} {
			may := within(x[0]-1, api.MaxExtents) && within(x[1]-1, api.MaxSectors)
			w, err := extent.New(x[0], x[1])
			switch {
			case may && (err != api.OK || w == nil || w.Extents() != x[0] || w.Sectors() != x[1]):
				t.Errorf("%v: %v, %d", x, w, err)
			case !may && (err != api.ErrArg || w != nil):
				t.Errorf("%v: %v, %d, not ErrArg", x, w, err)
			}
		}
	}
}

func TestWriteAndReadOfAllLengths(t *testing.T) {
	w := made(t, 1, 2)
	for n := range 3 * api.SectorBytes {
		s := strings.Repeat("\x00\xff", n)[:n]
		before := pictureOf(w)
		err := w.Write(0, 0, s)
		if n > api.SectorBytes {
			if err != api.ErrLong || !pictureOf(w).is(before) {
				t.Errorf("%d bytes: %d, %v", n, err, pictureOf(w))
			}
			continue
		}
		done(t, err)
		holds(t, w, 0, 0, state{last: s, wet: true})
	}
	for n := api.SectorBytes; n >= 0; n-- { // shorter ones leave nothing of longer ones
		done(t, w.Write(0, 0, long(n)), w.Lay(0, 1, long(n)))
		holds(t, w, 0, 0, state{last: long(n), wet: true})
		holds(t, w, 0, 1, state{last: long(n), dry: long(n)})
	}
}

func TestWriteOfAllBytes(t *testing.T) {
	w := made(t, 1, 4)
	dry := ""
	for c := range 256 {
		one := string([]byte{byte(c)})
		for _, s := range []string{one, "\x00" + one + "\x00", strings.Repeat(one, api.SectorBytes)} {
			done(t, w.Write(0, 3, s))
			holds(t, w, 0, 3, state{s, dry, true})
			done(t, w.Lay(0, 3, s))
			holds(t, w, 0, 3, state{s, s, false})
			dry = s
		}
		if t.Failed() {
			t.Fatalf("of the byte %d", c)
		}
	}
}

func TestWriteFlushAndWriteAgain(t *testing.T) {
	w := made(t, 1, 2)
	done(t, w.Write(0, 0, "x"))
	holds(t, w, 0, 0, state{"x", "", true})
	done(t, w.Write(0, 0, "xy"))
	holds(t, w, 0, 0, state{"xy", "", true})
	done(t, w.Flush(0))
	holds(t, w, 0, 0, state{"xy", "xy", false})
	done(t, w.Write(0, 0, "z"))
	holds(t, w, 0, 0, state{"z", "xy", true})
	done(t, w.Write(0, 0, ""))
	holds(t, w, 0, 0, state{"", "xy", true})
	done(t, w.Flush(0), w.Flush(0))
	holds(t, w, 0, 0, state{})
	holds(t, w, 0, 1, state{})
}

func TestWriteOfTheSameBytes(t *testing.T) {
	w := made(t, 1, 2)
	done(t, w.Write(0, 0, "")) // as it was from the beginning
	holds(t, w, 0, 0, state{wet: true})
	done(t, w.Write(0, 1, "x"), w.Flush(0))
	holds(t, w, 0, 0, state{})
	done(t, w.Write(0, 1, "x"))
	holds(t, w, 0, 1, state{"x", "x", true})
	done(t, w.Write(0, 1, "x"))
	if l := w.Wet(0); !slices.Equal(l, []int{1}) {
		t.Errorf("wet %v", l)
	}
	done(t, w.Lay(0, 0, "y"), w.Write(0, 0, "y"))
	holds(t, w, 0, 0, state{"y", "y", true})
}

func TestFlush(t *testing.T) {
	w := mixed(t)
	other := pictureOf(w).sectors[1]
	done(t, w.Flush(0))
	for at, s := range []string{"dry", "new", "wet"} {
		holds(t, w, 0, at, state{s, s, false})
		holds(t, w, 1, at, other[at])
	}
	done(t, w.Flush(0)) // of nothing wet
	for at, s := range []string{"dry", "new", "wet"} {
		holds(t, w, 0, at, state{s, s, false})
	}
	done(t, w.Write(0, 0, "again")) // wet, as any that is written behind a flush
	holds(t, w, 0, 0, state{"again", "dry", true})
}

// P5.1 and P5.2: which error is told, of all calls.

// first tells the first error that holds.
func first(errs ...api.Errno) api.Errno {
	for _, err := range errs {
		if err != api.OK {
			return err
		}
	}
	return api.OK
}

func when(holds bool, err api.Errno) api.Errno {
	if holds {
		return err
	}
	return api.OK
}

func TestErrors(t *testing.T) {
	for _, world := range []func(*testing.T) *extent.World{mixed, off} {
		w := world(t)
		before := pictureOf(w)
		down := when(!w.On(), api.ErrDown)
		for _, e := range places(extents) {
			noExtent := when(!within(e, extents), api.ErrArg)
			if err := w.Flush(e); err != first(down, noExtent) {
				t.Errorf("flush of %d: %d", e, err)
			}
			if l := w.Wet(e); noExtent != api.OK && len(l) != 0 {
				t.Errorf("wet of %d: %v", e, l)
			}
			for _, at := range places(sectors) {
				none := first(noExtent, when(!within(at, sectors), api.ErrArg))
				if s, err := w.Read(e, at); err != first(down, none) || err != api.OK && s != "" {
					t.Errorf("read of %d, %d: %q, %d", e, at, s, err)
				}
				if s, err := w.Dry(e, at); err != none || err != api.OK && s != "" {
					t.Errorf("dry of %d, %d: %q, %d", e, at, s, err)
				}
				for _, n := range lengths() {
					tooLong := when(n > api.SectorBytes, api.ErrLong)
					if err := w.Write(e, at, long(n)); err != first(down, none, tooLong) {
						t.Errorf("write of %d bytes to %d, %d: %d", n, e, at, err)
					}
					if err := w.Lay(e, at, long(n)); err != first(none, tooLong) {
						t.Errorf("lay of %d bytes to %d, %d: %d", n, e, at, err)
					}
				}
			}
			if noExtent == api.OK { // some of the calls went well
				w = world(t)
			}
			if !pictureOf(w).is(before) {
				t.Fatalf("calls at %d that failed turned the world: %v", e, pictureOf(w))
			}
		}
	}
}

func TestFailuresTurnNothing(t *testing.T) {
	for _, world := range []func(*testing.T) *extent.World{mixed, off} {
		w := world(t)
		before := pictureOf(w)
		var errs []api.Errno
		try := func(err api.Errno) { errs = append(errs, err) }
		for e := range extents {
			for at := range sectors {
				try(w.Write(e, at, long(api.SectorBytes+1)))
				try(w.Lay(e, at, long(api.SectorBytes+1)))
				for _, x := range [][2]int{{e, sectors}, {e, -1}, {-1, at}, {extents, at}, {e, -sectors + at}, {e, sectors + at}, {extents + e, at}} {
					try(w.Write(x[0], x[1], "y"))
					try(w.Lay(x[0], x[1], "y"))
				}
			}
		}
		try(w.Flush(-1))
		try(w.Flush(extents))
		if w.On() {
			try(w.Start())
		} else {
			try(w.Write(0, 0, "y"))
			try(w.Write(1, 1, ""))
			try(w.Flush(0))
			try(w.Crash(nil))
			try(w.Crash([]api.Pick{{Extent: 0, At: 1}, {Extent: 1, At: 2}}))
		}
		for i, err := range errs {
			if err == api.OK {
				t.Errorf("on %v: call %d went well", before.on, i)
			}
		}
		if after := pictureOf(w); !after.is(before) {
			t.Errorf("from %v to %v", before, after)
		}
	}
}

func TestNoWorld(t *testing.T) {
	var w *extent.World
	for _, e := range places(extents) {
		for _, at := range places(sectors) {
			for _, n := range lengths() {
				if err := w.Write(e, at, long(n)); err != api.ErrNil {
					t.Errorf("write: %d", err)
				}
				if err := w.Lay(e, at, long(n)); err != api.ErrNil {
					t.Errorf("lay: %d", err)
				}
			}
			if s, err := w.Read(e, at); s != "" || err != api.ErrNil {
				t.Errorf("read: %q, %d", s, err)
			}
			if s, err := w.Dry(e, at); s != "" || err != api.ErrNil {
				t.Errorf("dry: %q, %d", s, err)
			}
			if err := w.Crash([]api.Pick{{Extent: e, At: at}}); err != api.ErrNil {
				t.Errorf("crash: %d", err)
			}
		}
		if err := w.Flush(e); err != api.ErrNil {
			t.Errorf("flush: %d", err)
		}
		if l := w.Wet(e); len(l) != 0 {
			t.Errorf("wet: %v", l)
		}
	}
	if err := w.Crash(nil); err != api.ErrNil {
		t.Errorf("crash: %d", err)
	}
	if err := w.Start(); err != api.ErrNil {
		t.Errorf("start: %d", err)
	}
	if w.On() || w.Extents() != 0 || w.Sectors() != 0 {
		t.Errorf("on %v, %d extents, %d sectors", w.On(), w.Extents(), w.Sectors())
	}
}

// P5.2

func TestCrashAndStart(t *testing.T) {
	w := made(t, extents, sectors)
	told := func(step string, err, want api.Errno, on bool) {
		t.Helper()
		if err != want || w.On() != on || w.Extents() != extents || w.Sectors() != sectors {
			t.Errorf("%s: %d, on %v, %d extents, %d sectors", step, err, w.On(), w.Extents(), w.Sectors())
		}
	}
	told("start of one that is on", w.Start(), api.ErrThere, true)
	for range 3 {
		told("crash", w.Crash(nil), api.OK, false)
		told("crash of one that is off", w.Crash(nil), api.ErrDown, false)
		told("start", w.Start(), api.OK, true)
		told("start of one that is on", w.Start(), api.ErrThere, true)
	}
}

func TestCrashWithPicks(t *testing.T) {
	const dry, old, fresh = 0, 1, 2 // the places of mixed: the first one is dry, the second one is wet and was dry, the third one is wet
	for name, c := range map[string]struct {
		picks []api.Pick
		want  [extents][sectors]string
	}{
		"none":           {nil, [2][3]string{{"dry", "old", ""}, {"dry", "old", ""}}},
		"an empty list":  {[]api.Pick{}, [2][3]string{{"dry", "old", ""}, {"dry", "old", ""}}},
		"one":            {[]api.Pick{{Extent: 0, At: old}}, [2][3]string{{"dry", "new", ""}, {"dry", "old", ""}}},
		"another one":    {[]api.Pick{{Extent: 0, At: fresh}}, [2][3]string{{"dry", "old", "wet"}, {"dry", "old", ""}}},
		"of the other":   {[]api.Pick{{Extent: 1, At: old}}, [2][3]string{{"dry", "old", ""}, {"dry", "new", ""}}},
		"of both":        {[]api.Pick{{Extent: 1, At: fresh}, {Extent: 0, At: old}}, [2][3]string{{"dry", "new", ""}, {"dry", "old", "wet"}}},
		"twice":          {[]api.Pick{{Extent: 0, At: old}, {Extent: 0, At: old}}, [2][3]string{{"dry", "new", ""}, {"dry", "old", ""}}},
		"twice, parted":  {[]api.Pick{{Extent: 0, At: old}, {Extent: 1, At: fresh}, {Extent: 0, At: old}}, [2][3]string{{"dry", "new", ""}, {"dry", "old", "wet"}}},
		"a dry one":      {[]api.Pick{{Extent: 0, At: dry}, {Extent: 1, At: dry}}, [2][3]string{{"dry", "old", ""}, {"dry", "old", ""}}},
		"dry ones too":   {[]api.Pick{{Extent: 0, At: dry}, {Extent: 0, At: fresh}}, [2][3]string{{"dry", "old", "wet"}, {"dry", "old", ""}}},
		"no extent":      {[]api.Pick{{Extent: -1, At: old}, {Extent: extents, At: old}, {Extent: math.MaxInt, At: old}, {Extent: math.MinInt, At: old}}, [2][3]string{{"dry", "old", ""}, {"dry", "old", ""}}},
		"no sector":      {[]api.Pick{{Extent: 0, At: -1}, {Extent: 0, At: sectors}, {Extent: 0, At: math.MaxInt}, {Extent: 1, At: math.MinInt}}, [2][3]string{{"dry", "old", ""}, {"dry", "old", ""}}},
		"neither":        {[]api.Pick{{Extent: -1, At: -1}, {Extent: extents, At: sectors}}, [2][3]string{{"dry", "old", ""}, {"dry", "old", ""}}},
		"none, then one": {[]api.Pick{{Extent: 9}, {Extent: 0, At: 9}, {Extent: 1, At: old}}, [2][3]string{{"dry", "old", ""}, {"dry", "new", ""}}},
		"all": {[]api.Pick{{Extent: 0, At: 0}, {Extent: 0, At: 1}, {Extent: 0, At: 2}, {Extent: 1, At: 2}, {Extent: 1, At: 1}, {Extent: 1, At: 0}},
			[2][3]string{{"dry", "new", "wet"}, {"dry", "new", "wet"}}},
	} {
		t.Run(name, func(t *testing.T) {
			w := mixed(t)
			picks := slices.Clone(c.picks)
			done(t, w.Crash(picks))
			if !slices.Equal(picks, c.picks) {
				t.Errorf("the picks were turned: %v", picks)
			}
			clear(picks) // they aren't kept
			if w.On() {
				t.Error("it is on")
			}
			for range 2 {
				for e := range extents {
					for at, s := range c.want[e] {
						holds(t, w, e, at, state{s, s, false})
					}
				}
				w.Start()
			}
		})
	}
}

func TestCrashWithManyPicks(t *testing.T) {
	w := made(t, api.MaxExtents, api.MaxSectors)
	var picks []api.Pick
	written := func(e, at int) string { return strings.Repeat(string(rune('A'+e)), at%(api.SectorBytes+1)) }
	for e := range api.MaxExtents {
		for at := range api.MaxSectors {
			done(t, w.Write(e, at, written(e, at)))
			if (e+at)%3 == 0 {
				picks = append(picks, api.Pick{Extent: e, At: at}, api.Pick{Extent: e, At: at + api.MaxSectors}, api.Pick{Extent: e + api.MaxExtents, At: at})
			}
		}
	}
	done(t, w.Crash(picks))
	for e := range api.MaxExtents {
		for at := range api.MaxSectors {
			want := ""
			if (e+at)%3 == 0 {
				want = written(e, at)
			}
			holds(t, w, e, at, state{want, want, false})
		}
	}
}

func TestCrashOfWhatWasWrittenOften(t *testing.T) {
	w := made(t, 1, 2)
	done(t, w.Write(0, 0, "a"), w.Write(0, 1, "b"), w.Write(0, 0, "aa"), w.Write(0, 1, "bb"), w.Write(0, 0, "aaa"), w.Crash([]api.Pick{{Extent: 0, At: 0}}), w.Start())
	holds(t, w, 0, 0, state{"aaa", "aaa", false})
	holds(t, w, 0, 1, state{})
}

func TestPicksOfAnEarlierCrash(t *testing.T) {
	w := made(t, 1, 2)
	picks := []api.Pick{{Extent: 0, At: 0}, {Extent: 0, At: 1}}
	done(t, w.Crash(picks), w.Start(), w.Write(0, 0, "x"), w.Write(0, 1, "y"), w.Crash(nil))
	holds(t, w, 0, 0, state{})
	done(t, w.Start(), w.Write(0, 0, "x"), w.Crash(nil), w.Start(), w.Crash(picks), w.Start()) // what was lost isn't wet again
	holds(t, w, 0, 0, state{})
	holds(t, w, 0, 1, state{})
}

func TestWetRises(t *testing.T) {
	w := made(t, 2, api.MaxSectors)
	var want []int
	for i := range api.MaxSectors {
		at := i * 45 % api.MaxSectors // each once, not in order
		done(t, w.Write(1, at, "x"))
		want = append(want, at)
		slices.Sort(want)
		for range 3 {
			if l := w.Wet(1); !slices.Equal(l, want) {
				t.Fatalf("wet %v, not %v", l, want)
			}
		}
		if l := w.Wet(0); len(l) != 0 {
			t.Fatalf("wet %v", l)
		}
	}
	for at := api.MaxSectors - 1; at >= 0; at -= 2 {
		done(t, w.Lay(1, at, ""))
	}
	for i, at := range w.Wet(1) {
		if at != 2*i {
			t.Fatalf("wet %v", w.Wet(1))
		}
	}
	if l := w.Wet(1); len(l) != api.MaxSectors/2 {
		t.Errorf("wet %v", l)
	}
	done(t, w.Flush(1))
	if l := w.Wet(1); len(l) != 0 {
		t.Errorf("wet %v", l)
	}
}

func TestLay(t *testing.T) {
	w := mixed(t)
	for at, s := range []string{"x", "", long(api.SectorBytes)} { // on a dry one, and on wet ones
		done(t, w.Lay(0, at, s))
		holds(t, w, 0, at, state{s, s, false})
	}
	if l := w.Wet(0); len(l) != 0 {
		t.Errorf("wet %v", l)
	}
	done(t, w.Write(0, 1, "y"))
	holds(t, w, 0, 1, state{"y", "", true})
	done(t, w.Crash([]api.Pick{{Extent: 0, At: 0}, {Extent: 0, At: 2}}), w.Start()) // what was wet ahead of Lay doesn't come back
	for at, s := range []string{"x", "", long(api.SectorBytes)} {
		holds(t, w, 0, at, state{s, s, false})
	}
}

func TestFlushBehindLay(t *testing.T) {
	w := mixed(t)
	done(t, w.Lay(0, 2, "x"), w.Flush(0))
	for at, s := range []string{"dry", "new", "x"} {
		holds(t, w, 0, at, state{s, s, false})
	}
}

func TestLayWhileOff(t *testing.T) {
	w := off(t)
	done(t, w.Lay(0, 0, "x"), w.Lay(1, 2, "y"), w.Lay(1, 1, ""))
	if w.On() {
		t.Error("it is on")
	}
	for range 2 {
		for e, l := range [][]string{{"x", "new", ""}, {"dry", "", "y"}} {
			for at, s := range l {
				holds(t, w, e, at, state{s, s, false})
			}
		}
		w.Start()
	}
}

// P5.3

func TestWhatIsFlushedIsThereBehindEachCrash(t *testing.T) {
	all := []api.Pick{{Extent: 0, At: 0}, {Extent: 0, At: 1}, {Extent: 0, At: 2}, {Extent: 1, At: 0}, {Extent: 1, At: 1}, {Extent: 1, At: 2}, {Extent: 2, At: 0}, {Extent: 0, At: -1}}
	w := made(t, extents, sectors)
	for mask := range 1 << len(all) {
		var picks []api.Pick
		for i, p := range all {
			if mask&(1<<i) != 0 {
				picks = append(picks, p)
			}
		}
		flushed := fmt.Sprint("flushed ", mask)
		done(t, w.Write(0, 0, flushed), w.Write(0, 2, flushed), w.Flush(0), w.Write(0, 2, "behind"), w.Write(1, 0, "unflushed"), w.Crash(picks), w.Start(), w.Crash(all), w.Start())
		holds(t, w, 0, 0, state{flushed, flushed, false})
		last := flushed
		if slices.Contains(picks, api.Pick{Extent: 0, At: 2}) {
			last = "behind"
		}
		holds(t, w, 0, 2, state{last, last, false})
	}
}

func TestAnExtentIsTurnedByItsOwnCallsAlone(t *testing.T) {
	const many = 4
	for own := range many {
		w := made(t, many, sectors)
		done(t, w.Write(own, 0, "dry"), w.Write(own, 1, "old"), w.Flush(own), w.Write(own, 1, "new"), w.Write(own, 2, "wet"))
		before := pictureOf(w)
		for e := range many {
			if e == own {
				continue
			}
			for at := range sectors {
				done(t, w.Write(e, at, "x"), w.Lay(e, (at+1)%sectors, "y"), w.Write(e, at, "z"))
			}
			done(t, w.Flush(e), w.Write(e, 0, "w"))
			w.Read(e, 0)
			w.Dry(e, 0)
		}
		if after := pictureOf(w); !slices.Equal(after.sectors[own], before.sectors[own]) || !slices.Equal(after.wet[own], before.wet[own]) {
			t.Errorf("extent %d: from %v to %v", own, before, after)
		}
		var others []api.Pick
		for e := range many {
			for at := range sectors {
				if e != own {
					others = append(others, api.Pick{Extent: e, At: at})
				}
			}
		}
		done(t, w.Crash(others), w.Start())
		for at, s := range []string{"dry", "old", ""} {
			holds(t, w, own, at, state{s, s, false})
		}
	}
}

func TestWorldsAreApart(t *testing.T) {
	v, w := mixed(t), mixed(t)
	before := pictureOf(w)
	done(t, v.Write(0, 0, "x"), v.Lay(1, 1, "y"), v.Flush(0), v.Crash(nil), v.Lay(0, 2, "z"))
	if !pictureOf(w).is(before) {
		t.Errorf("from %v to %v", before, pictureOf(w))
	}
}

// model is a world as the chapter's words tell it: a row of sectors, each with its dry bytes, those written last, and whether it is wet.
type model struct {
	on      bool
	sectors [][]state
}

func (m *model) flush(e int) {
	for at, s := range m.sectors[e] {
		m.sectors[e][at] = state{s.last, s.last, false}
	}
}

func (m *model) crash(picks []api.Pick) {
	for e := range m.sectors {
		for at, s := range m.sectors[e] {
			if s.wet && slices.Contains(picks, api.Pick{Extent: e, At: at}) {
				s.dry = s.last
			}
			m.sectors[e][at] = state{s.dry, s.dry, false}
		}
	}
	m.on = false
}

// check holds a world against its model.
func (m *model) check(t *testing.T, w *extent.World) {
	t.Helper()
	if w.On() != m.on {
		t.Fatalf("on: %v", w.On())
	}
	for e, l := range m.sectors {
		var wet []int
		for at, s := range l {
			holds(t, w, e, at, s)
			if s.wet {
				wet = append(wet, at)
			}
		}
		if told := w.Wet(e); !slices.Equal(told, wet) {
			t.Errorf("wet %v, not %v", told, wet)
		}
	}
}

// walk does something by the chance of r to a world and its model.
func walk(r *rand.Rand, w *extent.World, m *model) (string, api.Errno) {
	e, at := r.Intn(len(m.sectors)), r.Intn(len(m.sectors[0]))
	s := strings.Repeat(string(rune('a'+r.Intn(2))), r.Intn(4))
	kind := r.Intn(12)
	switch {
	case kind == 0:
		m.sectors[e][at] = state{s, s, false}
		return fmt.Sprintf("lay %d %d %q", e, at, s), w.Lay(e, at, s)
	case !m.on:
		m.on = true
		return "start", w.Start()
	case kind == 1:
		var picks []api.Pick
		for range r.Intn(8) {
			picks = append(picks, api.Pick{Extent: r.Intn(len(m.sectors)+2) - 1, At: r.Intn(len(m.sectors[0])+2) - 1})
		}
		m.crash(picks)
		return fmt.Sprint("crash ", picks), w.Crash(picks)
	case kind <= 3:
		m.flush(e)
		return fmt.Sprint("flush ", e), w.Flush(e)
	}
	m.sectors[e][at] = state{s, m.sectors[e][at].dry, true}
	return fmt.Sprintf("write %d %d %q", e, at, s), w.Write(e, at, s)
}

func TestLongWalks(t *testing.T) {
	r := rand.New(rand.NewSource(5))
	for range 100 {
		size := [2]int{1 + r.Intn(3), 1 + r.Intn(4)}
		w, m := made(t, size[0], size[1]), &model{on: true}
		for range size[0] {
			m.sectors = append(m.sectors, make([]state, size[1]))
		}
		var steps []string
		for range 200 {
			step, err := walk(r, w, m)
			steps = append(steps, step)
			if err != api.OK {
				t.Fatalf("%v: %d", steps, err)
			}
			m.check(t, w)
			if t.Failed() {
				t.Fatalf("of %v: %v", size, steps)
			}
		}
	}
}

// What is handed in isn't kept, what is answered is new memory (rule 3).

func shares(a, b string) bool {
	from, to := uintptr(unsafe.Pointer(unsafe.StringData(a))), uintptr(unsafe.Pointer(unsafe.StringData(b)))
	return a != "" && b != "" && from < to+uintptr(len(b)) && to < from+uintptr(len(a))
}

func TestAnswersAreNewMemory(t *testing.T) {
	w := made(t, 1, 2)
	s := long(api.SectorBytes)
	done(t, w.Write(0, 0, s), w.Lay(0, 1, s))
	wet, _ := w.Read(0, 0)
	again, _ := w.Read(0, 0)
	dry, _ := w.Read(0, 1)
	told, _ := w.Dry(0, 1)
	l := []string{s, wet, again, dry, told}
	for i, a := range l {
		for _, b := range l[:i] {
			if a != b || shares(a, b) {
				t.Errorf("answer %d shares", i)
			}
		}
	}
	done(t, w.Write(0, 1, "x"))
	places := w.Wet(0)
	spare := places[:cap(places)]
	for i := range spare {
		spare[i] = 7
	}
	if l := w.Wet(0); !slices.Equal(l, []int{0, 1}) {
		t.Errorf("wet %v", l)
	}
}

func TestPicksKeepTheirSpareRoom(t *testing.T) {
	w := mixed(t)
	all := []api.Pick{{Extent: 0, At: 2}, {Extent: 1, At: 2}, {Extent: 9, At: 9}}
	done(t, w.Crash(all[:1]))
	if !slices.Equal(all, []api.Pick{{Extent: 0, At: 2}, {Extent: 1, At: 2}, {Extent: 9, At: 9}}) {
		t.Errorf("the picks were turned: %v", all)
	}
	holds(t, w, 1, 2, state{})
}

// The chapter's example.
func Example() {
	w, _ := extent.New(1, 2)
	w.Write(0, 0, "x")
	w.Flush(0)
	w.Write(0, 0, "y")
	read, _ := w.Read(0, 0)
	dry, _ := w.Dry(0, 0)
	w.Crash(nil)
	w.Start()
	behind, _ := w.Read(0, 0)
	fmt.Println(read, dry, behind)
	// Output: y x x
}
