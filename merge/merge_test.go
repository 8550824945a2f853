package merge_test

import (
	"fmt"
	"math"
	"slices"
	"strings"
	"testing"
	"unsafe"

	"cloisonne/api"
	"cloisonne/merge"
	"cloisonne/room"
	"cloisonne/value"
	"cloisonne/wset"
)

func text(s string) api.Value           { return api.Value{Text: s} }
func number(x float64) api.Value        { return value.Number(x) }
func long(n int) string                 { return strings.Repeat("k", n) }
func put(key, s string) api.Write       { return api.Write{Key: key, Value: text(s)} }
func gone(key string) api.Write         { return api.Write{Key: key, Gone: true} }
func whole(limit int) api.Range         { return api.Range{Limit: limit} }
func row(at int, key, s string) api.Row { return api.Row{Room: at, Key: key, Value: text(s)} }

// of is a store of such keys, all of one commit, whose values are told.
func of(t *testing.T, value string, keys ...string) *store {
	t.Helper()
	s := newStore(t)
	var l []api.Write
	for _, key := range keys {
		l = append(l, put(key, value))
	}
	if len(l) > 0 {
		s.commit(t, l...)
	}
	return s
}

// noted is a set of such writes.
func noted(t *testing.T, l ...api.Write) *wset.Set {
	t.Helper()
	s := wset.New()
	for _, w := range l {
		e := api.OK
		if w.Gone {
			e = s.Del(w.Key)
		} else {
			e = s.Put(w.Key, w.Value)
		}
		if e != api.OK {
			t.Fatal(w, e)
		}
	}
	return s
}

// tell tells all rows in short: the room, the key, the value's text.
func tell(l []api.Row) string {
	var words []string
	for _, x := range l {
		words = append(words, fmt.Sprintf("%d:%s=%s", x.Room, x.Key, x.Value.Text))
	}
	return strings.Join(words, " ")
}

// expect goes through all rows of a cursor, by steps of each size, and holds them against what is told.
func expect(t *testing.T, l []look, r api.Range, own *wset.Set, place int, want string) {
	t.Helper()
	for n := 1; n <= 7; n++ {
		if told := tell(begin(t, l, r, own, place).all(n)); told != want {
			t.Errorf("%v, by %d: %s; want %s", r, n, told, want)
		}
	}
}

// P13.1

func TestRight(t *testing.T) {
	for limit, want := range map[int]bool{math.MinInt: false, -64: false, -1: false, 0: false, 1: true, 2: true, 63: true, 64: true, 65: false, 1 << 32: false, 1<<32 + 1: false, math.MaxInt: false} {
		for _, r := range []api.Range{{}, {From: "a"}, {To: "a"}, {From: "a", To: "b"}, {From: long(300)}} {
			r.Limit = limit
			if merge.Right(r) != want {
				t.Errorf("Right(%v): not %v", r, want)
			}
		}
	}
}

// ends are pairs of From and To, and whether a range may have them.
func ends() map[[2]string]bool {
	return map[[2]string]bool{
		{"", ""}: true, {"a", ""}: true, {"\xff", ""}: true, {long(300), ""}: true,
		{"", "\x00"}: true, {"", "a"}: true, {"a", "b"}: true, {"a", "a\x00"}: true, {"\x7f", "\x80"}: true, {"Z", "a"}: true, {long(32), long(33)}: true, {"a", long(300)}: true,
		{"a", "a"}: false, {"\x00", "\x00"}: false, {long(300), long(300)}: false,
		{"b", "a"}: false, {"a\x00", "a"}: false, {"\x80", "\x7f"}: false, {"a", "Z"}: false, {long(33), long(32)}: false, {"b", "aa"}: false,
	}
}

func TestRightByEnds(t *testing.T) {
	for x, want := range ends() {
		for _, limit := range []int{1, 64} {
			if r := (api.Range{From: x[0], To: x[1], Limit: limit}); merge.Right(r) != want {
				t.Errorf("Right(%v): not %v", r, want)
			}
		}
		for _, limit := range []int{0, 65} {
			if r := (api.Range{From: x[0], To: x[1], Limit: limit}); merge.Right(r) {
				t.Errorf("Right(%v)", r)
			}
		}
	}
}

// Open refuses the ranges that aren't right, no other one.
func TestOpenByRange(t *testing.T) {
	s := of(t, "x", "a")
	for x, right := range ends() {
		for _, limit := range []int{math.MinInt, -1, 0, 1, 2, 64, 65, math.MaxInt} {
			r := api.Range{From: x[0], To: x[1], Limit: limit}
			may := right && limit >= 1 && limit <= 64
			for _, l := range [][]look{nil, {{s, 1, 0}}, {{s, 1, 0}, {s, 1, 3}}} {
				c, e := merge.Open(sources(l), r, nil, 0)
				if may != (c != nil) || may != (e == api.OK) || !may && e != api.ErrArg {
					t.Errorf("Open(%v): %v, %d", r, c, e)
				}
			}
		}
	}
}

// placed are sources of one room at such places.
func placed(r *room.Room, places ...int) []merge.Source {
	var l []merge.Source
	for _, place := range places {
		l = append(l, merge.Source{Room: r, Seq: 1, Place: place})
	}
	return l
}

func TestOpenByPlaces(t *testing.T) {
	r := of(t, "x", "a").r
	for _, places := range [][]int{nil, {0}, {1}, {7}, {math.MaxInt}, {0, 1}, {0, 7}, {3, 4}, {0, 1, 2}, {0, 2, 4, 1 << 40}, {0, math.MaxInt}, {0, 1, 2, 3, 4, 5, 6, 7, 8, 9, 10}} {
		if c, e := merge.Open(placed(r, places...), whole(1), nil, 0); c == nil || e != api.OK {
			t.Errorf("Open at %v: %v, %d", places, c, e)
		}
	}
	for _, places := range [][]int{{-1}, {math.MinInt}, {-1, 0}, {-2, -1}, {0, 0}, {5, 5}, {1, 0}, {7, 3}, {0, 1, 1}, {0, 1, 0}, {0, 0, 1}, {0, 2, 1}, {0, 1, -1}, {2, 1, 3}, {-1, 5, 7}, {math.MaxInt, math.MinInt}} {
		if c, e := merge.Open(placed(r, places...), whole(1), nil, 0); c != nil || e != api.ErrArg {
			t.Errorf("Open at %v: %v, %d", places, c, e)
		}
	}
}

// A nil room is told of ahead of all else that can't be.
func TestOpenOfNilRoom(t *testing.T) {
	r := of(t, "x", "a").r
	for _, places := range [][]int{{0}, {-1}, {0, 1}, {1, 0}, {0, 0}, {-2, -1}, {0, 1, 2}, {2, 1, 0}, {3, 3, 3}} {
		for at := range places {
			for _, x := range []api.Range{whole(1), whole(0), whole(65), {From: "b", To: "a", Limit: 1}, {From: "a", To: "a", Limit: -1}} {
				l := placed(r, places...)
				l[at].Room = nil
				if c, e := merge.Open(l, x, noted(t, put("a", "x")), 0); c != nil || e != api.ErrNil {
					t.Errorf("Open at %v, %d of them nil, %v: %v, %d", places, at, x, c, e)
				}
			}
		}
	}
}

// P13.2

// The chapter's example.
func TestExample(t *testing.T) {
	l := []look{{of(t, "v", "a", "c"), 1, 0}, {of(t, "v", "a", "b"), 1, 1}}
	expect(t, l, whole(64), nil, 0, "0:a=v 1:a=v 1:b=v 0:c=v")
}

func TestNoSource(t *testing.T) {
	own := noted(t, put("a", "own"))
	for _, place := range []int{math.MinInt, -1, 0, 1, math.MaxInt} {
		expect(t, nil, whole(5), own, place, "")
		expect(t, nil, whole(5), nil, place, "")
	}
}

func TestEmptyRooms(t *testing.T) {
	l := []look{{newStore(t), 0, 0}, {of(t, "x"), 5, 1}}
	expect(t, l, whole(5), nil, 0, "")
	expect(t, l, whole(5), noted(t, put("a", "own"), gone("b")), 1, "1:a=own")
}

// Rows of one key stand by places, though the rooms are at places far apart.
func TestOneKeyInManyRooms(t *testing.T) {
	var l []look
	var want []string
	for i, place := range []int{0, 1, 3, 10, 200, 1 << 40, math.MaxInt} {
		value := fmt.Sprint("of ", i)
		l = append(l, look{of(t, value, "k"), 1, place})
		want = append(want, fmt.Sprintf("%d:k=%s", place, value))
	}
	expect(t, l, whole(64), nil, 0, strings.Join(want, " "))
	for limit := range len(want) {
		expect(t, l, whole(limit+1), nil, 0, strings.Join(want[:limit+1], " "))
	}
}

// One room may be a source twice, also at two numbers.
func TestOneRoomTwice(t *testing.T) {
	s := of(t, "one", "a", "b")
	s.commit(t, put("a", "two"), gone("b"), put("c", "two"))
	expect(t, []look{{s, 1, 0}, {s, 2, 1}, {s, 1, 2}}, whole(64), nil, 0, "0:a=one 1:a=two 2:a=one 0:b=one 2:b=one 1:c=two")
	expect(t, []look{{s, 1, 0}, {s, 2, 1}}, whole(64), noted(t, put("b", "own"), gone("a")), 1, "0:a=one 0:b=one 1:b=own 1:c=two")
}

// Keys are those that live at the source's number.
func TestNumbers(t *testing.T) {
	s := of(t, "one", "a", "b")
	s.commit(t, gone("a"), put("c", "two"))
	s.commit(t, put("a", "three"), gone("b"))
	for seq, want := range map[int]string{math.MinInt: "", -1: "", 0: "", 1: "4:a=one 4:b=one", 2: "4:b=one 4:c=two", 3: "4:a=three 4:c=two", 4: "4:a=three 4:c=two", math.MaxInt: "4:a=three 4:c=two"} {
		expect(t, []look{{s, seq, 4}}, whole(64), nil, 4, want)
	}
}

// From and To at keys, between them, ahead of all and behind all.
func TestRanges(t *testing.T) {
	l := []look{{of(t, "v", "b", "d"), 1, 0}, {of(t, "v", "b", "c", "dd"), 1, 1}}
	for _, x := range [][3]string{
		{"", "", "0:b=v 1:b=v 1:c=v 0:d=v 1:dd=v"},
		{"a", "z", "0:b=v 1:b=v 1:c=v 0:d=v 1:dd=v"},
		{"b", "", "0:b=v 1:b=v 1:c=v 0:d=v 1:dd=v"},
		{"b\x00", "", "1:c=v 0:d=v 1:dd=v"},
		{"bb", "dc", "1:c=v 0:d=v"},
		{"c", "d", "1:c=v"},
		{"c", "dd", "1:c=v 0:d=v"},
		{"c", "dd\x00", "1:c=v 0:d=v 1:dd=v"},
		{"", "b", ""}, {"", "b\x00", "0:b=v 1:b=v"}, {"", "a", ""}, {"bb", "c", ""}, {"bb", "bc", ""},
		{"dd", "", "1:dd=v"}, {"dd\x00", "", ""}, {"e", "", ""}, {"e", "f", ""}, {long(300), "", ""}, {"", "c", "0:b=v 1:b=v"},
	} {
		expect(t, l, api.Range{From: x[0], To: x[1], Limit: 64}, nil, 0, x[2])
		expect(t, l, api.Range{From: x[0], To: x[1], Limit: 64}, noted(t, gone("a"), gone("bb"), gone("e")), 0, x[2])
	}
}

// The ends hold for the set's writes as well.
func TestRangesOfOwn(t *testing.T) {
	l := []look{{newStore(t), 0, 0}, {of(t, "v", "c"), 1, 1}}
	own := noted(t, put("a", "own"), put("b", "own"), put("c", "own"), put("d", "own"))
	for _, x := range [][3]string{
		{"", "", "0:a=own 0:b=own 0:c=own 1:c=v 0:d=own"}, {"b", "", "0:b=own 0:c=own 1:c=v 0:d=own"}, {"aa", "d", "0:b=own 0:c=own 1:c=v"},
		{"a", "b", "0:a=own"}, {"", "a", ""}, {"e", "", ""}, {"c", "c\x00", "0:c=own 1:c=v"}, {"c\x00", "e", "0:d=own"},
	} {
		expect(t, l, api.Range{From: x[0], To: x[1], Limit: 64}, own, 0, x[2])
	}
}

// Of the source of the set's place the keys that the set has are as it tells.
func TestOwn(t *testing.T) {
	l := []look{{of(t, "v", "a", "c", "e"), 1, 0}, {of(t, "v", "a", "c", "e"), 1, 2}}
	for _, x := range []struct {
		own  []api.Write
		want string // of place 2 alone
	}{
		{nil, "2:a=v 2:c=v 2:e=v"},
		{[]api.Write{put("b", "own")}, "2:a=v 2:b=own 2:c=v 2:e=v"},
		{[]api.Write{put("f", "own")}, "2:a=v 2:c=v 2:e=v 2:f=own"},
		{[]api.Write{put("A", "own")}, "2:A=own 2:a=v 2:c=v 2:e=v"},
		{[]api.Write{put("c", "own")}, "2:a=v 2:c=own 2:e=v"},
		{[]api.Write{put("c", "v")}, "2:a=v 2:c=v 2:e=v"},
		{[]api.Write{put("c", "")}, "2:a=v 2:c= 2:e=v"},
		{[]api.Write{gone("c")}, "2:a=v 2:e=v"},
		{[]api.Write{gone("a")}, "2:c=v 2:e=v"},
		{[]api.Write{gone("e")}, "2:a=v 2:c=v"},
		{[]api.Write{gone("a"), gone("c"), gone("e")}, ""},
		{[]api.Write{gone("b")}, "2:a=v 2:c=v 2:e=v"},
		{[]api.Write{gone("A"), gone("B"), gone("d"), gone("f"), gone("g")}, "2:a=v 2:c=v 2:e=v"},
		{[]api.Write{gone("a"), put("aa", "own"), gone("ab"), put("c", "own"), gone("d"), gone("e"), put("f", "own")}, "2:aa=own 2:c=own 2:f=own"},
	} {
		expect(t, l[1:], whole(64), noted(t, x.own...), 2, x.want)
		expect(t, l, whole(64), noted(t, x.own...), 2, beside(x.want))
		for _, place := range []int{math.MinInt, -1, 1, 3, math.MaxInt} { // a place that no source has
			expect(t, l, whole(64), noted(t, x.own...), place, beside("2:a=v 2:c=v 2:e=v"))
			expect(t, l[1:], whole(64), noted(t, x.own...), place, "2:a=v 2:c=v 2:e=v")
		}
		expect(t, l[1:], whole(64), noted(t, x.own...), 0, "2:a=v 2:c=v 2:e=v") // the source of that place isn't among them
		expect(t, l[1:], whole(64), nil, 2, "2:a=v 2:c=v 2:e=v")
	}
}

// beside tells rows, with those of another room, of place 0, among them.
func beside(want string) string {
	words := append(strings.Fields(want), "0:a=v", "0:c=v", "0:e=v")
	slices.SortFunc(words, func(a, b string) int {
		at := func(s string) string { return strings.Split(s[2:], "=")[0] + "\x00" + s[:1] }
		return strings.Compare(at(a), at(b))
	})
	return strings.Join(words, " ")
}

// A number is a value like any other.
func TestNumbersAsValues(t *testing.T) {
	s := newStore(t)
	s.commit(t, api.Write{Key: "a", Value: number(1)}, api.Write{Key: "b", Value: number(0)}, api.Write{Key: "c", Value: number(2)})
	own := wset.New()
	own.Put("c", number(math.NaN()))
	own.Put("d", number(math.Inf(-1)))
	l := begin(t, []look{{s, 1, 0}}, whole(9), own, 0).all(3)
	for i, x := range []float64{1, 0, math.NaN(), math.Inf(-1)} {
		if l[i].Value != number(x) {
			t.Error(i, l[i])
		}
	}
}

// twelve is a cursor of twelve rows.
func twelve(t *testing.T, limit int) *both {
	t.Helper()
	l := []look{{of(t, "v", "a", "b", "d", "f"), 1, 0}, {of(t, "w", "a", "b", "c"), 1, 1}, {of(t, "x", "a", "e", "g"), 1, 5}}
	return begin(t, l, whole(limit), noted(t, put("h", "own"), put("i", "own")), 1)
}

// Step of each size, on a cursor that told some rows already: which rows come, whether it is the end, and what Told is.
func TestStep(t *testing.T) {
	all := twelve(t, 64).all(64)
	for limit := 1; limit <= 15; limit++ {
		for first := 1; first <= 14; first++ {
			for _, n := range []int{1, 2, 5, 11, 12, 13, 64, 65, 1000, math.MaxInt} {
				b := twelve(t, limit)
				at := 0
				for _, size := range []int{first, n, 1, n} {
					l, done := b.step(size)
					end := min(limit, 12)
					want := all[at:min(end, at+min(size, 12))]
					at += len(want)
					wantDone := at == limit || len(want) < size
					if !slices.Equal(l, want) || done != wantDone || b.c.Told() != at {
						t.Fatalf("limit %d, %d then %d: %v, %v, %d", limit, first, n, l, done, b.c.Told())
					}
				}
			}
		}
	}
}

// Just as many as there are: false, and the next step tells none, and true.
func TestJustAsMany(t *testing.T) {
	b := twelve(t, 64)
	for _, x := range []struct {
		n, rows int
		done    bool
		told    int
	}{{5, 5, false, 5}, {7, 7, false, 12}, {1, 0, true, 12}, {3, 0, true, 12}} {
		l, done, e := b.c.Step(x.n)
		if len(l) != x.rows || done != x.done || e != api.OK || b.c.Told() != x.told {
			t.Errorf("Step(%d): %v, %v, %d, %d", x.n, l, done, e, b.c.Told())
		}
	}
	b = twelve(t, 12) // the Limit is told by then: true at once
	if l, done, e := b.c.Step(12); len(l) != 12 || !done || e != api.OK {
		t.Error(l, done, e)
	}
}

// Behind the Limit there is no row, whatever comes there.
func TestLimit(t *testing.T) {
	s := newStore(t)
	for i := range 10 {
		var l []api.Write
		for j := range 10 {
			l = append(l, put(fmt.Sprintf("%02d", 10*i+j), "x"))
		}
		s.commit(t, l...)
	}
	own := wset.New()
	for _, limit := range []int{1, 2, 63, 64} {
		for n := 1; n <= 70; n++ {
			b := begin(t, []look{{s, 10, 0}}, whole(limit), own, 0)
			if l := b.all(n); len(l) != limit || l[limit-1].Key != fmt.Sprintf("%02d", limit-1) {
				t.Fatal(limit, n, l)
			}
			own.Put("zz", text("late"))
			b.all(n)
			own = wset.New()
		}
	}
}

// A step that is refused turns nothing.
func TestRefused(t *testing.T) {
	b := twelve(t, 10)
	for range 14 {
		for _, n := range []int{0, -1, -2, -64, math.MinInt} {
			l, done, e := b.c.Step(n)
			if len(l) != 0 || done || e != api.ErrArg || b.c.Told() != len(b.m.told) {
				t.Fatalf("Step(%d): %v, %v, %d", n, l, done, e)
			}
		}
		b.step(1)
	}
}

// Rows at an elder number stay, while commits go on between the steps.
func TestCommitsBetween(t *testing.T) {
	for n := 1; n <= 5; n++ {
		l := []look{{of(t, "v", "a", "c", "d"), 1, 0}, {of(t, "v", "a", "b"), 1, 1}}
		b := begin(t, l, whole(64), nil, 0)
		var all []api.Row
		for done := false; !done; {
			var told []api.Row
			told, done = b.step(n)
			all = append(all, told...)
			l[0].s.commit(t, put("a", "new"), put("bb", "new"), gone("c"), put("d", "new"), put("e", "new"))
			l[1].s.commit(t, gone("a"), put("aa", "new"), gone("b"))
		}
		if tell(all) != "0:a=v 1:a=v 1:b=v 0:c=v 0:d=v" {
			t.Errorf("by %d: %s", n, tell(all))
		}
	}
}

// At a number that is still to come the rows are those of the rooms then.
func TestNumberToCome(t *testing.T) {
	s := of(t, "one", "b", "d")
	b := begin(t, []look{{s, 2, 0}}, whole(64), nil, 0)
	if l, _ := b.step(1); tell(l) != "0:b=one" {
		t.Error(tell(l))
	}
	s.commit(t, put("a", "two"), put("b", "two"), put("c", "two"), gone("d"))
	s.commit(t, put("c", "three"), put("e", "three"))
	if l, done := b.step(5); tell(l) != "0:c=two" || !done {
		t.Error(tell(l))
	}
}

// A cursor goes on from the last row that it told, by what the set is then.
func TestOwnBetween(t *testing.T) {
	l := []look{{of(t, "v", "b", "d"), 1, 0}, {of(t, "v", "b", "c"), 1, 1}}
	own := wset.New()
	b := begin(t, l, whole(8), own, 0)
	next := func(n int, want string, wantDone bool) {
		t.Helper()
		if l, done := b.step(n); tell(l) != want || done != wantDone {
			t.Errorf("%s, %v; want %s, %v", tell(l), done, want, wantDone)
		}
	}
	own.Del("d")
	own.Put("a", text("own"))
	next(1, "0:a=own", false)
	own.Put("a", text("other"))
	own.Put("aa", text("own"))
	own.Del("b")
	next(1, "0:aa=own", false)
	own.Put("b", text("own"))
	next(1, "0:b=own", false)
	own.Put("b", text("late")) // it was told already; the other room's b wasn't
	next(1, "1:b=v", false)
	own.Put("bb", text("own"))
	own.Mark()
	own.Put("bc", text("own"))
	own.Back(1)
	next(2, "0:bb=own 1:c=v", false)
	own.Put("c", text("late")) // behind c of place 1 there is none of place 0 any more
	next(5, "", true)
	own.Put("d", text("own")) // the end turns nothing: what comes up behind the last row is told
	next(1, "0:d=own", false)
	own.Put("e", text("own"))
	own.Put("f", text("own"))
	next(2, "0:e=own", true) // the eighth row, as many as the Limit
	next(1, "", true)
	if b.c.Told() != 8 {
		t.Error(b.c.Told())
	}
}

// Of one key a place that is below the last row's isn't told any more, one that is above is.
func TestPlacesBetween(t *testing.T) {
	l := []look{{newStore(t), 9, 0}, {of(t, "v", "k"), 9, 1}, {newStore(t), 9, 2}}
	b := begin(t, l, whole(9), nil, 0)
	b.step(1)
	for _, x := range l {
		x.s.commit(t, put("k", "new"))
	}
	if told, _ := b.step(9); tell(told) != "2:k=new" {
		t.Error(tell(told))
	}
}

// P13.3: all at once, one by one, and mixed.
func TestSameRows(t *testing.T) {
	want := twelve(t, 64).all(64)
	for _, sizes := range [][]int{{12}, {64}, {math.MaxInt}, {1}, {2}, {3, 1}, {1, 5, 2}, {11, 1}, {1, 64}, {4, 4, 4}, {12, 12}, {7, 1, 1, 9}} {
		b := twelve(t, 64)
		var all []api.Row
		for i, done := 0, false; !done; i++ {
			var l []api.Row
			l, done = b.step(sizes[i%len(sizes)])
			all = append(all, l...)
		}
		if !slices.Equal(all, want) {
			t.Errorf("by %v: %s", sizes, tell(all))
		}
	}
}

// Two cursors of the same rooms and the same set have nothing to do with one another.
func TestTwoCursors(t *testing.T) {
	l := []look{{of(t, "v", "a", "c"), 1, 0}, {of(t, "v", "b"), 1, 1}}
	own := noted(t, put("d", "own"))
	a, b := begin(t, l, whole(3), own, 0), begin(t, l, api.Range{From: "b", Limit: 9}, own, 1)
	for range 5 {
		a.step(1)
		b.step(2)
	}
}

// Rule 3

// What a caller does to a list that it handed in, or was told, turns nothing; and nothing of it is changed.
func TestLists(t *testing.T) {
	one, two := of(t, "v", "a", "b", "c", "d"), of(t, "w", "x")
	l := placed(one.r, 0, 1, 2)
	c, e := merge.Open(l[:2], whole(64), nil, 0)
	if e != api.OK {
		t.Fatal(e)
	}
	if !slices.Equal(l, placed(one.r, 0, 1, 2)) {
		t.Error("the list was changed", l)
	}
	l[0], l[1], l[2] = merge.Source{Room: two.r, Seq: 1, Place: 4}, merge.Source{}, merge.Source{}
	rows, _, _ := c.Step(3)
	if tell(rows) != "0:a=v 1:a=v 0:b=v" {
		t.Error(tell(rows))
	}
	for i := range rows {
		rows[i] = row(7, "z", "wrong")
	}
	_ = append(rows[:1], row(8, "zz", "wrong"))
	again, _, _ := c.Step(3)
	if tell(again) != "1:b=v 0:c=v 1:c=v" || tell(rows) == tell(again) {
		t.Error(tell(again))
	}
}

// Keys and texts that are told are new memory, of the range's ends and the set's too.
func TestNewMemory(t *testing.T) {
	big := "key" + long(20) + "text" + long(20) + "other"
	key, value, other := big[:3], big[23:27], big[47:]
	s := newStore(t)
	s.commit(t, put(key, value))
	own := noted(t, put(other, value))
	met := map[*byte]bool{unsafe.StringData(key): true, unsafe.StringData(value): true, unsafe.StringData(other): true}
	for _, r := range []api.Range{whole(3), {From: key, Limit: 3}, {From: "a", To: big, Limit: 3}} {
		c, _ := merge.Open([]merge.Source{{Room: s.r, Seq: 1}}, r, own, 0)
		var l []api.Row
		for range 3 {
			rows, _, _ := c.Step(1)
			l = append(l, rows...)
		}
		for _, x := range l {
			for _, told := range []string{x.Key, x.Value.Text} {
				if met[unsafe.StringData(told)] {
					t.Errorf("%q is no new memory", told)
				}
				met[unsafe.StringData(told)] = true
			}
		}
	}
	if len(met) < 3+2*4 {
		t.Error("few rows", len(met))
	}
}

// Neither a room nor the set is turned by steps.
func TestStepsTurnNothing(t *testing.T) {
	s := of(t, "v", "a", "b")
	own := noted(t, put("c", "own"), gone("a"))
	was, wrote := s.r.Entries(), own.All()
	begin(t, []look{{s, 1, 0}}, whole(9), own, 0).all(1)
	if !slices.Equal(s.r.Entries(), was) || !slices.Equal(own.All(), wrote) || s.r.Seq() != 1 || own.Marks() != 0 {
		t.Error(s.r.Entries(), own.All())
	}
}

// A nil cursor: ErrNil, nothing, false, 0.
func TestNil(t *testing.T) {
	var c *merge.Cursor
	for _, n := range []int{math.MinInt, -1, 0, 1, 64, math.MaxInt} {
		if l, done, e := c.Step(n); len(l) != 0 || done || e != api.ErrNil {
			t.Error(n, l, done, e)
		}
		if c.Told() != 0 {
			t.Error(c.Told())
		}
	}
}

// Rule 1: none panics, not on what no call made either.
func TestNoneMade(t *testing.T) {
	var c merge.Cursor
	for _, n := range []int{-1, 0, 1, math.MaxInt} {
		c.Step(n)
		c.Told()
	}
	d, _ := merge.Open([]merge.Source{{Room: &room.Room{}, Seq: 1}}, whole(5), &wset.Set{}, 0)
	d.Step(3)
}

func ExampleCursor_Step() {
	var l []merge.Source
	for place, keys := range [][]string{{"a", "c"}, {"a", "b"}} {
		r, _ := room.New(api.Room{Ring: 4, Quota: 100, Most: api.MaxSeq})
		r.Commit([]api.Write{{Key: keys[0]}, {Key: keys[1]}}, 1)
		l = append(l, merge.Source{Room: r, Seq: 1, Place: place})
	}
	c, _ := merge.Open(l, api.Range{Limit: 10}, nil, 0)
	for done := false; !done; {
		var rows []api.Row
		rows, done, _ = c.Step(2)
		for _, x := range rows {
			fmt.Print(x.Key, " of ", x.Room, ", ")
		}
		fmt.Println(len(rows), done)
	}
	// Output:
	// a of 0, a of 1, 2 false
	// b of 1, c of 0, 2 false
	// 0 true
}
