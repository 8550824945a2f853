package room_test

import (
	"math"
	"slices"
	"strings"
	"testing"

	"cloisonne/api"
	"cloisonne/room"
	"cloisonne/value"
)

func put(key, s string) api.Write            { return api.Write{Key: key, Value: api.Value{Text: s}} }
func gone(key string) api.Write              { return api.Write{Key: key, Gone: true} }
func number(key string, x float64) api.Write { return api.Write{Key: key, Value: value.Number(x)} }
func entry(key string, n int, s string) api.Entry {
	return api.Entry{Key: key, Seq: n, Value: api.Value{Text: s}}
}
func writes(l ...api.Write) []api.Write  { return l }
func entries(l ...api.Entry) []api.Entry { return l }
func long(n int) string                  { return strings.Repeat("x", n) }
func of(quota, most, ring int) api.Room  { return api.Room{Ring: ring, Quota: quota, Most: most} }
func wide(ring int) api.Room             { return of(api.MaxQuota, api.MaxSeq, ring) }

// model is a room by the words of chapters 9 to 11: it keeps all stamps, looks at all versions, and reckons all sums anew.
type model struct {
	setting api.Room
	began   int
	stamps  []uint64 // of the commits began+1 and on
	chains  map[string][]api.Version
}

func (m *model) seq() int { return m.began + len(m.stamps) }

func (m *model) tooOld(n int) bool { return m.seq()-n >= m.setting.Ring }

func (m *model) floor() int {
	n := m.began
	for m.tooOld(n) {
		n++
	}
	return n
}

func (m *model) asOf(stamp uint64) (int, api.Errno) {
	n := m.began
	for i, x := range m.stamps {
		if x <= stamp {
			n = m.began + i + 1
		}
	}
	if m.tooOld(n) {
		return 0, api.ErrOld
	}
	return n, api.OK
}

// at tells the version of a key at a number, if the key lives there.
func (m *model) at(key string, seq int) (api.Version, bool) {
	var last api.Version
	there := false
	for _, v := range m.chains[key] {
		if v.Seq <= seq {
			last, there = v, !v.Gone
		}
	}
	if !there {
		return api.Version{}, false
	}
	return last, true
}

// all tells all keys that have a version, rising.
func (m *model) all() []string {
	var l []string
	for key, versions := range m.chains {
		if len(versions) > 0 {
			l = append(l, key)
		}
	}
	slices.Sort(l)
	return l
}

// first tells the first key at least as great as one, or above it, that lives at a number.
func (m *model) first(key string, seq int, above bool) (string, api.Value, bool) {
	for _, k := range m.all() {
		if k < key || above && k == key {
			continue
		}
		if v, ok := m.at(k, seq); ok {
			return k, v.Value, true
		}
	}
	return "", api.Value{}, false
}

func (m *model) entries() []api.Entry {
	var l []api.Entry
	for _, key := range m.all() {
		if v, ok := m.at(key, m.seq()); ok {
			l = append(l, api.Entry{Key: key, Seq: v.Seq, Value: v.Value})
		}
	}
	return l
}

func bytesOf(v api.Value) int {
	if v.Number {
		return 1 + 8
	}
	return 1 + len(v.Text)
}

func (m *model) live() int {
	n := 0
	for _, x := range m.entries() {
		n += len(x.Key) + bytesOf(x.Value)
	}
	return n
}

func (m *model) versions() int {
	n := 0
	for _, l := range m.chains {
		n += len(l)
	}
	return n
}

func may(l []api.Write) bool {
	if len(l) == 0 || len(l) > 16 {
		return false
	}
	for i, x := range l {
		if len(x.Key) == 0 || len(x.Key) > 32 || i > 0 && l[i-1].Key >= x.Key {
			return false
		}
		if !value.Right(x.Value) || x.Gone && x.Value != (api.Value{}) {
			return false
		}
	}
	return true
}

// fits tells whether there is a number, and room for what would live.
func (m *model) fits(l []api.Write) api.Errno {
	if m.seq() == m.setting.Most {
		return api.ErrSeq
	}
	with := m.clone()
	with.do(l, math.MaxUint64)
	if with.live() > m.setting.Quota {
		return api.ErrQuota
	}
	return api.OK
}

func (m *model) check(l []api.Write, seq int) api.Errno {
	if !may(l) {
		return api.ErrArg
	}
	if seq < m.floor() || seq > m.seq() {
		return api.ErrOld
	}
	for _, x := range l {
		for _, v := range m.chains[x.Key] {
			if v.Seq > seq {
				return api.ErrConflict
			}
		}
	}
	return m.fits(l)
}

func (m *model) do(l []api.Write, stamp uint64) {
	m.stamps = append(m.stamps, stamp)
	for _, x := range l {
		m.chains[x.Key] = append(m.chains[x.Key], api.Version{Seq: m.seq(), Gone: x.Gone, Value: x.Value})
	}
}

func (m *model) commit(l []api.Write, stamp uint64) (int, api.Errno) {
	if !may(l) {
		return 0, api.ErrArg
	}
	if err := m.fits(l); err != api.OK {
		return 0, err
	}
	if stamp == 0 || len(m.stamps) > 0 && stamp <= m.stamps[len(m.stamps)-1] {
		return 0, api.ErrArg
	}
	m.do(l, stamp)
	return m.seq(), api.OK
}

func (m *model) sweep() int {
	had, floor := m.versions(), m.floor()
	for key, l := range m.chains {
		var left []api.Version
		for i, v := range l {
			if over := i+1 < len(l) && l[i+1].Seq <= floor; !over {
				left = append(left, v)
			}
		}
		if len(left) > 0 && left[0].Gone && left[0].Seq <= floor {
			left = left[1:]
		}
		m.chains[key] = left
	}
	return had - m.versions()
}

func (m *model) clone() *model {
	c := &model{setting: m.setting, began: m.began, stamps: slices.Clone(m.stamps), chains: map[string][]api.Version{}}
	for key, l := range m.chains {
		c.chains[key] = slices.Clone(l)
	}
	return c
}

// load begins both with entries.
func load(t *testing.T, s api.Room, seq int, l ...api.Entry) (*room.Room, *model) {
	t.Helper()
	r, err := room.Load(s, seq, l)
	if r == nil || err != api.OK {
		t.Fatalf("Load(%v, %d, %v): %v, %d", s, seq, l, r, err)
	}
	m := &model{setting: s, began: seq, chains: map[string][]api.Version{}}
	for _, x := range l {
		m.chains[x.Key] = []api.Version{{Seq: x.Seq, Value: x.Value}}
	}
	return r, m
}

// begin begins both without keys.
func begin(t *testing.T, s api.Room) (*room.Room, *model) {
	t.Helper()
	r, err := room.New(s)
	if r == nil || err != api.OK {
		t.Fatalf("New(%v): %v, %d", s, r, err)
	}
	return r, &model{setting: s, chains: map[string][]api.Version{}}
}

// commit tries the writes on both, with the stamp handed in.
func commit(t *testing.T, r *room.Room, m *model, stamp uint64, l ...api.Write) {
	t.Helper()
	want, wantErr := m.commit(l, stamp)
	if n, err := r.Commit(l, stamp); n != want || err != wantErr {
		t.Fatalf("Commit(%v, %d) behind %v: %d, %d; want %d, %d", l, stamp, m.stamps, n, err, want, wantErr)
	}
}

// next commits writes that both must take, with a stamp of its own.
func next(t *testing.T, r *room.Room, m *model, l ...api.Write) {
	t.Helper()
	want := m.seq() + 1
	commit(t, r, m, uint64(10*len(m.stamps)+10), l...)
	if m.seq() != want {
		t.Fatalf("%v was refused", l)
	}
}

func sweep(t *testing.T, r *room.Room, m *model) {
	t.Helper()
	had := m.clone()
	if n, want := r.Sweep(), m.sweep(); n != want {
		t.Fatalf("Sweep of %v, floor %d: %d; want %d", had.chains, had.floor(), n, want)
	}
}

func same(a, b api.Room) bool {
	return slices.Equal(a.Label, b.Label) && a.Ring == b.Ring && a.Quota == b.Quota && a.Most == b.Most
}

// probes are keys worth asking by: those that there are or were, right below and above these, and both ends.
func (m *model) probes() []string {
	l := []string{"", "\x00", "\xff", long(api.MaxKey), long(api.MaxKey + 1), long(500)}
	for key := range m.chains {
		l = append(l, key, key+"\x00", key[:len(key)-1], key[:len(key)-1]+string([]byte{key[len(key)-1] - 1, 0xff}))
	}
	slices.Sort(l)
	return slices.Compact(l)
}

// numbers are those worth asking at: all, if there are few, below and above them, and both ends.
func (m *model) numbers() []int {
	l := []int{math.MinInt, -api.MaxSeq, -1, 0, 1, m.seq() + 1, m.seq() + 2, api.MaxSeq, api.MaxSeq + 1, 1 << 32, math.MaxInt}
	for n := m.seq(); n >= 0 && n > m.seq()-30; n-- {
		l = append(l, n)
	}
	for _, versions := range m.chains {
		for _, v := range versions {
			l = append(l, v.Seq-1, v.Seq, v.Seq+1)
		}
	}
	slices.Sort(l)
	return slices.Compact(l)
}

// hold holds all that a room tells against the model.
func hold(t *testing.T, r *room.Room, m *model) {
	t.Helper()
	holdSums(t, r, m)
	for _, stamp := range append([]uint64{0, 1, 5, 15, 25, math.MaxInt64 + 1, math.MaxUint64}, m.stamps...) {
		want, wantErr := m.asOf(stamp)
		if n, err := r.AsOf(stamp); n != want || err != wantErr {
			t.Fatalf("AsOf(%d) behind %v: %d, %d; want %d, %d", stamp, m.stamps, n, err, want, wantErr)
		}
	}
	holdKeys(t, r, m, math.MinInt)
}

func holdSums(t *testing.T, r *room.Room, m *model) {
	t.Helper()
	if !same(r.Setting(), m.setting) {
		t.Fatalf("Setting: %v; want %v", r.Setting(), m.setting)
	}
	if r.Seq() != m.seq() || r.Floor() != m.floor() {
		t.Fatalf("Seq %d, Floor %d; want %d, %d", r.Seq(), r.Floor(), m.seq(), m.floor())
	}
	if r.Live() != m.live() || r.Keys() != len(m.entries()) || r.Versions() != m.versions() {
		t.Fatalf("%v: Live %d, Keys %d, Versions %d; want %d, %d, %d", m.chains, r.Live(), r.Keys(), r.Versions(), m.live(), len(m.entries()), m.versions())
	}
	if l := r.Entries(); !slices.Equal(l, m.entries()) {
		t.Fatalf("Entries of %v: %v; want %v", m.chains, l, m.entries())
	}
}

// holdKeys holds what a room tells of keys at numbers, those below least excepted.
func holdKeys(t *testing.T, r *room.Room, m *model, least int) {
	t.Helper()
	for _, seq := range m.numbers() {
		if seq < least {
			continue
		}
		for _, key := range m.probes() {
			want, wantOK := m.at(key, seq)
			if v, ok := r.Get(key, seq); v != want.Value || ok != wantOK {
				t.Fatalf("%v: Get(%q, %d): %v, %t; want %v, %t", m.chains, key, seq, v, ok, want.Value, wantOK)
			}
			holdFirst(t, m, key, seq, true, r.After)
			holdFirst(t, m, key, seq, false, r.Seek)
		}
	}
}

func holdFirst(t *testing.T, m *model, key string, seq int, above bool, ask func(string, int) (string, api.Value, bool)) {
	t.Helper()
	want, wantValue, wantOK := m.first(key, seq, above)
	if k, v, ok := ask(key, seq); k != want || v != wantValue || ok != wantOK {
		t.Fatalf("%v: from %q (above it: %t) at %d: %q, %v, %t; want %q, %v, %t", m.chains, key, above, seq, k, v, ok, want, wantValue, wantOK)
	}
}
