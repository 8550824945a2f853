package caps_test

import (
	"maps"
	"math"
	"slices"
	"testing"

	"cloisonne/api"
	"cloisonne/caps"
)

// right is that somebody may see a tag, or, if minus, may drop it.
type right struct {
	who   int
	tag   uint64
	minus bool
}

// model is a table by the chapter's words: a set of rights.
type model struct {
	people, tags int
	has          map[right]bool
}

func (m *model) clone() *model {
	return &model{m.people, m.tags, maps.Clone(m.has)}
}

func (m *model) one(who int) bool { return 0 <= who && who < m.people }

func (m *model) made(tag uint64) bool { return tag != 0 && tag <= uint64(m.tags) }

func (m *model) check(d api.Deed) api.Errno {
	if !m.one(d.Who) {
		return api.ErrArg
	}
	if d.Kind == 1 {
		switch {
		case d.To != 0, d.Tag != 0, d.Minus:
			return api.ErrArg
		case m.tags == 16:
			return api.ErrLong
		}
		return api.OK
	}
	switch {
	case d.Kind != 2, !m.one(d.To):
		return api.ErrArg
	case !m.made(d.Tag):
		return api.ErrNone
	case !m.has[right{d.Who, d.Tag, d.Minus}]:
		return api.ErrClear
	case m.has[right{d.To, d.Tag, d.Minus}]:
		return api.ErrThere
	}
	return api.OK
}

func (m *model) do(d api.Deed) (uint64, api.Errno) {
	if e := m.check(d); e != api.OK {
		return 0, e
	}
	if d.Kind == 1 {
		m.tags++
		d.Tag = uint64(m.tags)
		m.has[right{d.Who, d.Tag, false}] = true
		m.has[right{d.Who, d.Tag, true}] = true
		return d.Tag, api.OK
	}
	m.has[right{d.To, d.Tag, d.Minus}] = true
	return d.Tag, api.OK
}

func (m *model) clear(who int, at, l []uint64) bool {
	if !m.one(who) {
		return false
	}
	for _, tag := range l {
		if !slices.Contains(at, tag) && !m.has[right{who, tag, false}] {
			return false
		}
	}
	return true
}

// set tells the tags of somebody, rising, and their mask.
func (m *model) set(who int, minus bool) ([]uint64, uint64) {
	var l []uint64
	mask, worth := uint64(0), uint64(1)
	for tag := uint64(1); tag <= 16; tag++ {
		if m.has[right{who, tag, minus}] {
			l = append(l, tag)
			mask += worth
		}
		worth *= 2
	}
	return l, mask
}

// masks tells both masks of each of the people.
func (m *model) masks() ([]uint64, []uint64) {
	var plus, minus []uint64
	for who := range m.people {
		_, p := m.set(who, false)
		_, d := m.set(who, true)
		plus, minus = append(plus, p), append(minus, d)
	}
	return plus, minus
}

// someTags are all that can be made, and some that can't.
func someTags() []uint64 {
	l := []uint64{31, 32, 33, 63, 64, 65, 66, 80, 127, 128, 129, 255, 256, 257, 1 << 16, 1 << 32, 1<<32 + 1, 1<<32 + 2, 1 << 63, 1<<63 + 1, math.MaxUint64 - 1, math.MaxUint64}
	for tag := range uint64(19) {
		l = append(l, tag)
	}
	return l
}

// nobodies are none of any table's people, beside those that stand right behind its last one.
func nobodies(people int) []int {
	return []int{-1, -2, -8, math.MinInt, math.MinInt32, people, people + 1, people + 8, 8, 9, 63, 64, 255, 256, 257, 1 << 32, math.MaxInt}
}

// hold holds all that a table tells against the model, but for its deeds and what is clear.
func hold(t *testing.T, x *caps.Table, m *model) {
	t.Helper()
	if x.People() != m.people || x.Tags() != m.tags {
		t.Fatalf("People %d, Tags %d; want %d, %d", x.People(), x.Tags(), m.people, m.tags)
	}
	for who := range m.people {
		plus, _ := m.set(who, false)
		minus, _ := m.set(who, true)
		if p, d := x.Plus(who), x.Minus(who); !slices.Equal(p, plus) || !slices.Equal(d, minus) {
			t.Fatalf("%d has %v, %v; want %v, %v", who, p, d, plus, minus)
		}
		for _, tag := range someTags() {
			if x.MayDrop(who, tag) != slices.Contains(minus, tag) {
				t.Fatalf("MayDrop(%d, %d): %v", who, tag, x.MayDrop(who, tag))
			}
		}
	}
	plus, minus := m.masks()
	if p, d := x.Masks(); !slices.Equal(p, plus) || !slices.Equal(d, minus) {
		t.Fatalf("Masks: %v, %v; want %v, %v", p, d, plus, minus)
	}
}

// holdNobodies holds what a table tells of who there isn't.
func holdNobodies(t *testing.T, x *caps.Table) {
	t.Helper()
	for _, who := range nobodies(x.People()) {
		if p, d := x.Plus(who), x.Minus(who); len(p) != 0 || len(d) != 0 {
			t.Fatalf("%d has %v, %v", who, p, d)
		}
		for _, tag := range someTags() {
			if x.MayDrop(who, tag) || x.Clear(who, nil, []uint64{tag}) || x.Clear(who, []uint64{tag}, []uint64{tag}) || x.Clear(who, []uint64{tag}, nil) {
				t.Fatalf("%d may see or drop %d", who, tag)
			}
		}
	}
}

func begin(t *testing.T, people int) (*caps.Table, *model) {
	t.Helper()
	x, e := caps.New(people)
	if e != api.OK || x == nil {
		t.Fatalf("New(%d): %v, %d", people, x, e)
	}
	return x, &model{people: people, has: map[right]bool{}}
}

// load makes a table and its model of masks.
func load(t *testing.T, tags int, plus, minus []uint64) (*caps.Table, *model) {
	t.Helper()
	x, e := caps.Load(tags, plus, minus)
	if e != api.OK || x == nil {
		t.Fatalf("Load(%d, %v, %v): %v, %d", tags, plus, minus, x, e)
	}
	m := &model{people: len(plus), tags: tags, has: map[right]bool{}}
	for who := range plus {
		p, d := plus[who], minus[who]
		for tag := uint64(1); tag <= 16; tag++ {
			if p%2 == 1 {
				m.has[right{who, tag, false}] = true
			}
			if d%2 == 1 {
				m.has[right{who, tag, true}] = true
			}
			p, d = p/2, d/2
		}
	}
	return x, m
}

// check asks for a deed without doing it: the table stays as it is.
func check(t *testing.T, x *caps.Table, m *model, d api.Deed) api.Errno {
	t.Helper()
	want := m.check(d)
	for range 2 {
		if e := x.Check(d); e != want {
			p, q := m.masks()
			t.Fatalf("%d tags, %b, %b: Check(%+v): %d; want %d", m.tags, p, q, d, e, want)
		}
	}
	return want
}

// do asks for a deed, and does it on both.
func do(t *testing.T, x *caps.Table, m *model, d api.Deed) api.Errno {
	t.Helper()
	check(t, x, m, d)
	want, wantErr := m.do(d)
	if n, e := x.Do(d); n != want || e != wantErr {
		p, q := m.masks()
		t.Fatalf("%d tags, %b, %b: Do(%+v): %d, %d; want %d, %d", m.tags, p, q, d, n, e, want, wantErr)
	}
	return wantErr
}

// holdClear asks whether one list is clear at another one.
func holdClear(t *testing.T, x *caps.Table, m *model, who int, at, l []uint64) bool {
	t.Helper()
	want := m.clear(who, at, l)
	if got := x.Clear(who, at, l); got != want {
		p, _ := m.set(who, false)
		t.Fatalf("Clear(%d, %d, %d): %v; it may see %d", who, at, l, got, p)
	}
	return want
}

// picks tells numbers below a bound, the same ones for each seed.
func picks(seed uint64) func(below int) int {
	return func(below int) int {
		seed += 0x9E3779B97F4A7C15
		x := (seed ^ seed>>30) * 0xBF58476D1CE4E5B9
		x = (x ^ x>>27) * 0x94D049BB133111EB
		return int((x ^ x>>31) % uint64(below))
	}
}

// lists are all lists of up to so many of these tags, in whatever order, with tags twice as well.
func lists(tags []uint64, most int) [][]uint64 {
	all := [][]uint64{nil}
	for first := 0; most > 0; most-- {
		end := len(all)
		for _, l := range all[first:end] {
			for _, tag := range tags {
				all = append(all, append(slices.Clone(l), tag))
			}
		}
		first = end
	}
	return all
}

// tables tells all masks that so many people can have of so many tags.
func tables(people, tags int, each func(plus, minus []uint64)) {
	bits := people * tags
	for p := range uint64(1) << bits {
		for d := range uint64(1) << bits {
			var plus, minus []uint64
			for who := range people {
				plus = append(plus, p>>(who*tags)%(1<<tags))
				minus = append(minus, d>>(who*tags)%(1<<tags))
			}
			each(plus, minus)
		}
	}
}

// P16.1: on all tables of few people and tags, all deeds, those that can't be too.
func TestAllDeedsOnAllSmallTables(t *testing.T) {
	for _, x := range []struct{ people, tags int }{{1, 0}, {2, 0}, {1, 1}, {1, 2}, {1, 3}, {2, 1}, {2, 2}, {3, 1}} {
		tables(x.people, x.tags, func(plus, minus []uint64) {
			for kind := -1; kind <= 4; kind++ {
				for who := -1; who <= x.people; who++ {
					for to := -1; to <= x.people; to++ {
						for tag := range uint64(x.tags + 3) {
							for _, toDrop := range []bool{false, true} {
								d := api.Deed{Kind: kind, Who: who, To: to, Tag: tag, Minus: toDrop}
								table, m := load(t, x.tags, plus, minus)
								was, wasMinus := table.Masks()
								if do(t, table, m, d) == api.OK {
									hold(t, table, m)
								} else if p, q := table.Masks(); !slices.Equal(p, was) || !slices.Equal(q, wasMinus) || table.Tags() != x.tags {
									t.Fatalf("%+v changed %b, %b to %b, %b", d, was, wasMinus, p, q)
								}
							}
						}
					}
				}
			}
		})
	}
}

// P16.2: on all tables of few people and tags, what is clear of all short lists, labels or not, at all short lists.
func TestAllShortListsOnAllSmallTables(t *testing.T) {
	asked := lists([]uint64{0, 1, 2, 3, 65}, 3)
	for plus := range uint64(8) {
		for minus := range uint64(8) {
			x, m := load(t, 3, []uint64{plus, plus ^ 7}, []uint64{minus, plus})
			for _, at := range asked {
				for _, l := range asked {
					holdClear(t, x, m, 0, at, l)
				}
			}
			for _, l := range asked {
				holdClear(t, x, m, 1, nil, l)
				holdClear(t, x, m, 1, []uint64{3, 1}, l)
				holdClear(t, x, m, -1, l, l)
				holdClear(t, x, m, 2, l, l)
			}
		}
	}
}

// some picks a deed: mostly one that may be asked for, now and then one that can't be.
func some(pick func(below int) int, m *model) api.Deed {
	if pick(7) == 0 {
		return api.Deed{Kind: 1, Who: pick(m.people)}
	}
	d := api.Deed{Kind: 2, Who: pick(m.people), To: pick(m.people), Tag: uint64(pick(m.tags+2) + pick(3)/2), Minus: pick(3) == 0}
	switch pick(30) {
	case 0:
		d.Kind = pick(5) - 1
	case 1:
		d.Who = nobodies(m.people)[pick(17)]
	case 2:
		d.To = nobodies(m.people)[pick(17)]
	case 3:
		d.Tag = someTags()[pick(len(someTags()))]
	}
	return d
}

// P16.3: in long runs nobody loses a right, and who has one has it of who made the tag, or of somebody who had it.
func TestLongRunsOfDeeds(t *testing.T) {
	told := map[api.Errno]int{}
	for seed := range uint64(400) {
		pick := picks(seed)
		x, m := begin(t, 1+int(seed%8))
		for range 150 {
			was, d := m.clone(), some(pick, m)
			e := do(t, x, m, d)
			told[e]++
			hold(t, x, m)
			holdCame(t, x, was, d, e)
		}
		holdNobodies(t, x)
	}
	for _, e := range []api.Errno{api.OK, api.ErrArg, api.ErrLong, api.ErrNone, api.ErrClear, api.ErrThere} {
		if told[e] < 300 {
			t.Errorf("the runs come to error %d but %d times", e, told[e])
		}
	}
}

// holdCame holds what a table tells behind a deed against what it told ahead of it: what is new came of that deed.
func holdCame(t *testing.T, x *caps.Table, was *model, d api.Deed, e api.Errno) {
	t.Helper()
	for who := range was.people {
		for tag := uint64(1); tag <= 16; tag++ {
			for _, minus := range []bool{false, true} {
				has := slices.Contains(x.Plus(who), tag)
				if minus {
					has = x.MayDrop(who, tag)
				}
				had := was.has[right{who, tag, minus}]
				if had && !has {
					t.Fatalf("behind %+v: %d lost %d", d, who, tag)
				}
				made := d.Kind == 1 && d.Who == who && tag == uint64(was.tags)+1
				given := d.Kind == 2 && d.To == who && d.Tag == tag && d.Minus == minus && was.has[right{d.Who, tag, minus}]
				if has != (had || e == api.OK && (made || given)) {
					t.Fatalf("behind %+v, %d: %d has %d: %v, had it: %v", d, e, who, tag, has, had)
				}
			}
		}
	}
}

// P16.2, P16.3: on the way of long runs, what is clear of any lists; it stays so at a greater one, and behind more deeds.
func TestClearInLongRuns(t *testing.T) {
	yes, no := 0, 0
	for seed := range uint64(300) {
		pick := picks(seed)
		list := func() []uint64 {
			var l []uint64
			for range pick(8) {
				l = append(l, uint64(pick(19)))
			}
			if pick(2) == 0 {
				slices.Sort(l)
			}
			return l
		}
		x, m := begin(t, 1+int(seed%8))
		type ask struct {
			who   int
			at, l []uint64
		}
		var clear []ask
		for range 120 {
			do(t, x, m, some(pick, m))
			a := ask{pick(m.people), list(), list()}
			if !holdClear(t, x, m, a.who, a.at, a.l) {
				no++
				continue
			}
			yes++
			clear = append(clear, a)
			if greater := append(list(), a.at...); !x.Clear(a.who, greater, a.l) {
				t.Fatalf("%d: %d is clear at %d, and not at %d", a.who, a.l, a.at, greater)
			}
		}
		for _, a := range clear {
			if !x.Clear(a.who, a.at, a.l) {
				t.Fatalf("%d: %d isn't clear any more at %d", a.who, a.l, a.at)
			}
		}
	}
	if yes < 1000 || no < 1000 {
		t.Error("the runs come to few answers:", yes, no)
	}
}
