package merge_test

import (
	"fmt"
	"maps"
	"slices"
	"strings"
	"testing"

	"cloisonne/api"
	"cloisonne/merge"
	"cloisonne/room"
	"cloisonne/wset"
)

// store is a room, and of each of its commits what it had then.
type store struct {
	r     *room.Room
	kept  []map[string]api.Value // the first one is of number 0
	stamp uint64
}

func newStore(t *testing.T) *store {
	t.Helper()
	r, e := room.New(api.Room{Ring: api.MaxRing, Quota: api.MaxQuota, Most: api.MaxSeq})
	if e != api.OK {
		t.Fatal(e)
	}
	return &store{r: r, kept: []map[string]api.Value{{}}}
}

func (s *store) commit(t *testing.T, l ...api.Write) {
	t.Helper()
	s.stamp++
	slices.SortFunc(l, func(a, b api.Write) int { return strings.Compare(a.Key, b.Key) })
	if n, e := s.r.Commit(l, s.stamp); n != len(s.kept) || e != api.OK {
		t.Fatalf("Commit(%v): %d, %d", l, n, e)
	}
	now := maps.Clone(s.kept[len(s.kept)-1])
	for _, w := range l {
		if w.Gone {
			delete(now, w.Key)
		} else {
			now[w.Key] = w.Value
		}
	}
	s.kept = append(s.kept, now)
}

// at tells what lives at a number, of the last one if it is above that.
func (s *store) at(seq int) map[string]api.Value {
	if seq < 0 {
		return nil
	}
	return s.kept[min(seq, len(s.kept)-1)]
}

// look is a source by the words: a store, a number and a place.
type look struct {
	s     *store
	seq   int
	place int
}

// model is a cursor by the chapter's words: at each step it tells all rows anew.
type model struct {
	looks []look
	r     api.Range
	own   *wset.Set
	place int
	told  []api.Row
}

// rows are all rows as of now, in order, those too that were told or are past the Limit.
func (m *model) rows() []api.Row {
	var l []api.Row
	for _, x := range m.looks {
		has := maps.Clone(x.s.at(x.seq))
		if has == nil {
			has = map[string]api.Value{}
		}
		if x.place == m.place {
			for _, w := range m.own.All() {
				delete(has, w.Key)
				if !w.Gone {
					has[w.Key] = w.Value
				}
			}
		}
		for key, v := range has {
			if key >= m.r.From && (m.r.To == "" || key < m.r.To) {
				l = append(l, api.Row{Room: x.place, Key: key, Value: v})
			}
		}
	}
	slices.SortFunc(l, order)
	return l
}

// order is by keys, of one key by places.
func order(a, b api.Row) int {
	if a.Key != b.Key {
		return strings.Compare(a.Key, b.Key)
	}
	return a.Room - b.Room
}

func (m *model) step(n int) ([]api.Row, bool, api.Errno) {
	if n < 1 {
		return nil, false, api.ErrArg
	}
	rest := m.rows()
	if len(m.told) > 0 {
		last := m.told[len(m.told)-1]
		rest = slices.DeleteFunc(rest, func(x api.Row) bool { return order(x, last) <= 0 })
	}
	rest = rest[:min(len(rest), m.r.Limit-len(m.told))]
	l := rest[:min(len(rest), n)]
	m.told = append(m.told, l...)
	return l, len(m.told) == m.r.Limit || len(rest) < n, api.OK
}

// both is a cursor and its model, which are asked the same.
type both struct {
	t *testing.T
	c *merge.Cursor
	m *model
}

// begin opens both; the range may be, and places rise.
func begin(t *testing.T, l []look, r api.Range, own *wset.Set, place int) *both {
	t.Helper()
	c, e := merge.Open(sources(l), r, own, place)
	if e != api.OK || c == nil {
		t.Fatalf("Open(%v): %v, %d", r, c, e)
	}
	b := &both{t, c, &model{looks: l, r: r, own: own, place: place}}
	if n := c.Told(); n != 0 {
		t.Fatalf("Told %d ahead of all steps", n)
	}
	return b
}

func sources(l []look) []merge.Source {
	var told []merge.Source
	for _, x := range l {
		told = append(told, merge.Source{Room: x.s.r, Seq: x.seq, Place: x.place})
	}
	return told
}

// step asks both for so many rows, and tells what came, and whether it was the end.
func (b *both) step(n int) ([]api.Row, bool) {
	b.t.Helper()
	want, wantDone, wantErr := b.m.step(n)
	l, done, e := b.c.Step(n)
	if !slices.Equal(l, want) || done != wantDone || e != wantErr {
		b.t.Fatalf("Step(%d): %v, %v, %d; want %v, %v, %d", n, l, done, e, want, wantDone, wantErr)
	}
	if n := b.c.Told(); n != len(b.m.told) {
		b.t.Fatalf("Told: %d; want %d", n, len(b.m.told))
	}
	return l, done
}

// all goes on by steps of so many, till the end and twice behind it, and tells all rows.
func (b *both) all(n int) []api.Row {
	b.t.Helper()
	var all []api.Row
	for done := false; !done; {
		var l []api.Row
		l, done = b.step(n)
		all = append(all, l...)
	}
	for range 2 {
		if l, done := b.step(n); len(l) != 0 || !done {
			b.t.Fatalf("behind the end: %v, %v", l, done)
		}
	}
	return all
}

// picks tells numbers that seem to be in no order, the same ones each time.
func picks(seed uint64) func(below int) int {
	return func(below int) int {
		seed += 0x9E3779B97F4A7C15
		x := (seed ^ seed>>30) * 0xBF58476D1CE4E5B9
		x = (x ^ x>>27) * 0x94D049BB133111EB
		return int((x ^ x>>31) >> 1 % uint64(below))
	}
}

// fewStores are two rooms of the keys a and b, in all the ways in which these may be there.
func fewStores(t *testing.T) [][]*store {
	var l [][]*store
	for way := range 16 {
		var pair []*store
		for place := range 2 {
			s := newStore(t)
			for i, key := range []string{"a", "b"} {
				if way>>(2*place+i)&1 == 1 {
					s.commit(t, put(key, fmt.Sprint("room ", place)))
				}
			}
			pair = append(pair, s)
		}
		l = append(l, pair)
	}
	return l
}

// fewSets are sets of the keys a, b and c, of each without a write, with one, and with one that is Gone; and none.
func fewSets(t *testing.T) []*wset.Set {
	l := []*wset.Set{nil}
	for way := range 27 {
		s := wset.New()
		for _, key := range []string{"a", "b", "c"} {
			e := api.OK
			switch way % 3 {
			case 1:
				e = s.Put(key, text("own"))
			case 2:
				e = s.Del(key)
			}
			if e != api.OK {
				t.Fatal(e)
			}
			way /= 3
		}
		l = append(l, s)
	}
	return l
}

// P13.2, P13.3: two rooms and a set of few keys in all ways, by ranges at and beside them, in steps of each size.
func TestAllOfFewKeys(t *testing.T) {
	ranges := []api.Range{{}, {From: "a"}, {From: "b"}, {From: "aa"}, {To: "b"}, {To: "bb"}, {From: "a", To: "b"}, {From: "aa", To: "c"}, {From: "c"}}
	for _, pair := range fewStores(t) {
		l := []look{{pair[0], 9, 2}, {pair[1], 9, 5}}
		for _, own := range fewSets(t) {
			for _, place := range []int{2, 5, 3} {
				for i, r := range ranges {
					r.Limit = 1 + i%3
					begin(t, l, r, own, place).all(1 + i%4)
					r.Limit = api.MaxLimit
					for n := 1; n <= 6; n++ {
						begin(t, l, r, own, place).all(n)
					}
				}
			}
		}
	}
}

// walk is some rooms, a set, and a cursor of them.
type walk struct {
	both
	pick   func(below int) int
	stores []*store
}

func walkKeys() []string {
	return []string{"\x00", "a", "a\x00", "aa", "ab", "b", "ba", "c", "d", "e", "f", "\x7f", "\x80", "\xff", long(31), long(32)}
}

func (w *walk) key() string {
	l := walkKeys()
	return l[w.pick(len(l))]
}

func (w *walk) value() api.Value {
	if w.pick(3) == 0 {
		return number(float64(w.pick(9)))
	}
	return text(fmt.Sprint(w.pick(9)))
}

// write tells a write, of three one that is Gone.
func (w *walk) write() api.Write {
	if w.pick(3) == 0 {
		return gone(w.key())
	}
	return api.Write{Key: w.key(), Value: w.value()}
}

// commit puts up to four keys' writes into some room.
func (w *walk) commit() {
	var l []api.Write
	for range 1 + w.pick(4) {
		x := w.write()
		if !slices.ContainsFunc(l, func(y api.Write) bool { return x.Key == y.Key }) {
			l = append(l, x)
		}
	}
	w.stores[w.pick(len(w.stores))].commit(w.t, l...)
}

// note does something to the set.
func (w *walk) note(own *wset.Set) {
	switch x := w.write(); {
	case w.pick(8) == 0:
		own.Mark()
	case w.pick(8) == 0:
		own.Back(1 + w.pick(api.MaxMarks))
	case x.Gone:
		own.Del(x.Key)
	default:
		own.Put(x.Key, x.Value)
	}
}

// bounds tells a range, whose ends are often keys.
func (w *walk) bounds() api.Range {
	r := api.Range{Limit: 1 + w.pick(api.MaxLimit)}
	if w.pick(2) == 0 {
		r.Limit = 1 + w.pick(6)
	}
	if w.pick(2) == 0 {
		r.From = w.key()
	}
	if to := w.key(); w.pick(2) == 0 && to > r.From {
		r.To = to
	}
	return r
}

// newWalk has up to five rooms, with some commits, and a cursor as of some numbers; fixed, if none of them is too old, or still to come.
func newWalk(t *testing.T, seed uint64, fixed bool) (*walk, *wset.Set) {
	t.Helper()
	w := &walk{pick: picks(seed)}
	w.t = t
	for range w.pick(6) {
		w.stores = append(w.stores, newStore(t))
	}
	own := wset.New()
	for range 30 {
		if len(w.stores) > 0 {
			w.commit()
		}
	}
	for range w.pick(20) {
		w.note(own)
	}
	var l []look
	place := w.pick(3)
	for _, s := range w.stores {
		seq := s.r.Floor() + w.pick(s.r.Seq()-s.r.Floor()+1)
		if !fixed {
			seq = w.pick(s.r.Seq()+8) - 2
		}
		l = append(l, look{s, seq, place})
		place += 1 + w.pick(3)
	}
	place = w.pick(place + 1)
	if len(l) > 0 && w.pick(3) > 0 {
		place = l[w.pick(len(l))].place
	}
	w.both = *begin(t, l, w.bounds(), own, place)
	return w, own
}

// P13.2: long walks, of steps, commits and writes of the set, whose every step is held against the model.
func TestWalks(t *testing.T) {
	several, late := 0, 0
	for seed := range uint64(4000) {
		w, own := newWalk(t, seed, false)
		ended := false
		for range 30 {
			switch n := w.pick(10); {
			case n < 4 && len(w.stores) > 0:
				w.commit()
			case n < 6:
				w.note(own)
			case n < 7:
				w.step(-w.pick(3))
			default:
				l, done := w.step(1 + w.pick(4))
				if ended && len(l) > 0 {
					late++
				}
				ended = done
			}
		}
		if w.c.Told() > 4 {
			several++
		}
	}
	if several < 1000 || late < 100 {
		t.Error("the walks come to few rows:", several, late)
	}
}

// P13.3: at numbers that aren't below a Floor all ways of asking tell the same, whatever is committed, and swept, between.
func TestAllWaysOfAsking(t *testing.T) {
	several := 0
	for seed := range uint64(1500) {
		w, own := newWalk(t, seed, true)
		r, place := w.m.r, w.m.place
		want := w.all(api.MaxLimit)
		if len(want) != min(len(w.m.rows()), r.Limit) {
			t.Fatal(len(want), len(w.m.rows()))
		}
		for way := range 6 {
			c, _ := merge.Open(sources(w.m.looks), r, own, place)
			if l := w.ask(c, way); !slices.Equal(l, want) {
				t.Fatalf("way %d: %v; want %v", way, l, want)
			}
		}
		if len(want) > 4 {
			several++
		}
	}
	if several < 500 {
		t.Error("few cursors have several rows:", several)
	}
}

// ask goes on to the end by steps of so many, or (0) of any size, with commits and sweeps between as long as no number comes to stand below a Floor.
func (w *walk) ask(c *merge.Cursor, n int) []api.Row {
	var all []api.Row
	for done := false; !done; {
		size := n
		if n == 0 {
			size = 1 + w.pick(5)
		}
		l, d, e := c.Step(size)
		if e != api.OK || len(l) > size {
			w.t.Fatal(l, d, e)
		}
		all, done = append(all, l...), d
		w.between()
	}
	return all
}

// between commits to a room whose Floor may rise, and sweeps all.
func (w *walk) between() {
	for _, x := range w.m.looks {
		for range 2 {
			if x.s.r.Seq()-x.seq+1 < api.MaxRing {
				x.s.commit(w.t, w.write())
			}
		}
		x.s.r.Sweep()
		if x.s.r.Floor() > x.seq {
			w.t.Fatal("the number is too old", x.seq, x.s.r.Floor())
		}
	}
}
