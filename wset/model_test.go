package wset_test

import (
	"maps"
	"slices"
	"strings"
	"testing"

	"cloisonne/api"
	"cloisonne/value"
	"cloisonne/wset"
)

// model is a set by the chapter's words: of each key its write, and of each mark a copy of all.
type model struct {
	writes map[string]api.Write
	marks  []map[string]api.Write
}

func (m *model) write(w api.Write) api.Errno {
	_, has := m.writes[w.Key]
	switch {
	case w.Key == "" || len(w.Key) > 32 || !value.Right(w.Value):
		return api.ErrArg
	case len(m.writes) == 16 && !has:
		return api.ErrBig
	}
	m.writes[w.Key] = w
	return api.OK
}

func (m *model) mark() (int, api.Errno) {
	if len(m.marks) == 4 {
		return 0, api.ErrLong
	}
	m.marks = append(m.marks, maps.Clone(m.writes))
	return len(m.marks), api.OK
}

func (m *model) back(mark int) api.Errno {
	for i := range m.marks {
		if i+1 == mark {
			m.writes = maps.Clone(m.marks[i])
			m.marks = m.marks[:i+1]
			return api.OK
		}
	}
	return api.ErrNone
}

// least tells the write of the least key that is as asked.
func (m *model) least(asked func(key string) bool) (api.Write, bool) {
	var least api.Write
	there := false
	for key, w := range m.writes {
		if asked(key) && (!there || key < least.Key) {
			least, there = w, true
		}
	}
	return least, there
}

// around are keys at each write, right ahead of it and right behind it, and some that may be no keys.
func (m *model) around() []string {
	l := []string{"", "\x00", "\xff", long(32), long(33), strings.Repeat("\xff", 33), strings.Repeat("\x00", 300)}
	for key := range m.writes {
		last := len(key) - 1
		l = append(l, key, key+"\x00", key[:last], key[:last]+string([]byte{key[last] - 1}), key[:last]+string([]byte{key[last] + 1}))
	}
	return l
}

// both is a set and its model, which are told the same.
type both struct {
	t *testing.T
	s *wset.Set
	m *model
}

func begin(t *testing.T) *both {
	return &both{t, wset.New(), &model{writes: map[string]api.Write{}}}
}

func (b *both) put(key string, v api.Value) api.Errno {
	b.t.Helper()
	want := b.m.write(api.Write{Key: key, Value: v})
	if e := b.s.Put(key, v); e != want {
		b.t.Fatalf("Put(%q, %v): %d; want %d", key, v, e, want)
	}
	return want
}

func (b *both) del(key string) api.Errno {
	b.t.Helper()
	want := b.m.write(api.Write{Key: key, Gone: true})
	if e := b.s.Del(key); e != want {
		b.t.Fatalf("Del(%q): %d; want %d", key, e, want)
	}
	return want
}

func (b *both) mark() (int, api.Errno) {
	b.t.Helper()
	want, wantErr := b.m.mark()
	if n, e := b.s.Mark(); n != want || e != wantErr {
		b.t.Fatalf("Mark: %d, %d; want %d, %d", n, e, want, wantErr)
	}
	return want, wantErr
}

func (b *both) back(mark int) api.Errno {
	b.t.Helper()
	want := b.m.back(mark)
	if e := b.s.Back(mark); e != want {
		b.t.Fatalf("Back(%d): %d; want %d", mark, e, want)
	}
	return want
}

// hold holds all that the set tells against the model, but for what Back tells.
func (b *both) hold() {
	b.t.Helper()
	if b.s.Len() != len(b.m.writes) || b.s.Marks() != len(b.m.marks) {
		b.t.Fatalf("Len %d, Marks %d; want %d, %d", b.s.Len(), b.s.Marks(), len(b.m.writes), len(b.m.marks))
	}
	var all []api.Write
	for _, key := range slices.Sorted(maps.Keys(b.m.writes)) {
		all = append(all, b.m.writes[key])
	}
	if l := b.s.All(); !slices.Equal(l, all) {
		b.t.Fatalf("All: %v; want %v", l, all)
	}
	for _, key := range b.m.around() {
		b.holdAt(key)
	}
}

// holdAt holds what is told of one key against the model.
func (b *both) holdAt(key string) {
	b.t.Helper()
	want, wantOk := b.m.writes[key]
	if w, ok := b.s.Get(key); w != want || ok != wantOk {
		b.t.Fatalf("Get(%q): %v, %v; want %v, %v", key, w, ok, want, wantOk)
	}
	want, wantOk = b.m.least(func(k string) bool { return k > key })
	if w, ok := b.s.After(key); w != want || ok != wantOk {
		b.t.Fatalf("After(%q): %v, %v; want %v, %v", key, w, ok, want, wantOk)
	}
	want, wantOk = b.m.least(func(k string) bool { return k >= key })
	if w, ok := b.s.Seek(key); w != want || ok != wantOk {
		b.t.Fatalf("Seek(%q): %v, %v; want %v, %v", key, w, ok, want, wantOk)
	}
}

// deeds are few, so that all rows of some of them can be tried.
func deeds() []func(b *both) {
	return []func(b *both){
		func(b *both) { b.put("a", text("1")) },
		func(b *both) { b.put("a", text("2")) },
		func(b *both) { b.del("a") },
		func(b *both) { b.put("b", value.Number(3)) },
		func(b *both) { b.del("b") },
		func(b *both) { b.mark() },
		func(b *both) { b.back(1) },
		func(b *both) { b.back(2) },
		func(b *both) { b.back(3) },
	}
}

// P12.1, P12.2, P12.3: all rows of five deeds on two keys.
func TestAllRowsOfDeeds(t *testing.T) {
	l := deeds()
	rows := 1
	for range 5 {
		rows *= len(l)
	}
	for row := range rows {
		b := begin(t)
		for rest, i := row, 0; i < 5; rest, i = rest/len(l), i+1 {
			l[rest%len(l)](b)
		}
		b.hold()
	}
}

// picks tells numbers that seem to be in no order, the same ones each time.
func picks(seed uint64) func(below int) int {
	return func(below int) int {
		seed += 0x9E3779B97F4A7C15
		x := (seed ^ seed>>30) * 0xBF58476D1CE4E5B9
		x = (x ^ x>>27) * 0x94D049BB133111EB
		return int((x ^ x>>31) >> 1 % uint64(below))
	}
}

// stroll does one more deed, of keys of which there are more than a set takes; some of them, and some values, may not be.
func stroll(b *both, pick func(below int) int) {
	keys := append(manyKeys(), "", long(33), long(32), "k")
	values := append(rightValues(), wrongValues()[0], wrongValues()[1])
	key := keys[pick(len(keys))]
	switch n := pick(40); {
	case n < 20:
		b.put(key, values[pick(len(values))])
	case n < 34:
		b.del(key)
	case n < 37:
		b.mark()
	default:
		b.back(pick(7) - 1)
	}
}

// P12.1, P12.2, P12.3: long walks, whose every step is held against the model.
func TestWalks(t *testing.T) {
	full, marked := 0, 0
	for seed := range uint64(60) {
		b, pick := begin(t), picks(seed)
		for range 150 {
			stroll(b, pick)
			b.hold()
			if len(b.m.writes) == api.MaxWrites {
				full++
			}
			if len(b.m.marks) == api.MaxMarks {
				marked++
			}
		}
	}
	if full < 500 || marked < 500 {
		t.Error("the walks come to few sets that are full:", full, marked)
	}
}

// P12.3: back to a mark, whatever was done behind it, leaves what there was at it.
func TestBackLeavesWhatThereWas(t *testing.T) {
	for seed := range uint64(300) {
		b, pick := begin(t), picks(seed)
		for range pick(60) {
			stroll(b, pick)
		}
		n, e := b.mark()
		if e != api.OK {
			continue
		}
		was := b.s.All()
		for range pick(100) {
			if key := manyKeys()[pick(20)]; pick(2) == 0 {
				b.put(key, text("later"))
			} else {
				b.del(key)
			}
			if pick(9) == 0 {
				b.mark()
			}
			if pick(9) == 0 {
				b.back(n + 1 + pick(3)) // later ones alone, if there are any
			}
		}
		if b.s.Back(n) != api.OK || !slices.Equal(b.s.All(), was) || b.s.Marks() != n {
			t.Fatalf("back to %d: %v, not %v; %d marks", n, b.s.All(), was, b.s.Marks())
		}
	}
}
