package caps_test

import (
	"math"
	"slices"
	"testing"

	"cloisonne/api"
	"cloisonne/caps"
)

func makes(who int) api.Deed { return api.Deed{Kind: api.DeedMake, Who: who} }

func gives(who, to int, tag uint64, minus bool) api.Deed {
	return api.Deed{Kind: api.DeedGive, Who: who, To: to, Tag: tag, Minus: minus}
}

// bitOf tells 2 to the power of the tag less one.
func bitOf(tag int) uint64 {
	x := uint64(1)
	for range tag - 1 {
		x *= 2
	}
	return x
}

// roomy has l with spare room that is marked, so that whoever writes to it is found out.
func roomy(l []uint64) []uint64 {
	return append(append(make([]uint64, 0, len(l)+8), l...), 77, 77, 77, 77, 77, 77, 77, 77)[:len(l)]
}

// asRoomy tells whether a roomy list is as it was made, its spare room too.
func asRoomy(l, was []uint64) bool {
	return slices.Equal(l, was) && slices.Equal(l[len(l):len(l)+8], slices.Repeat([]uint64{77}, 8))
}

// tells asks a table for a deed, and has it done, by plain numbers.
func tells(t *testing.T, x *caps.Table, d api.Deed, want uint64, wantErr api.Errno) {
	t.Helper()
	plus, minus := x.Masks()
	if e := x.Check(d); e != wantErr {
		t.Errorf("%b, %b: Check(%+v): %d; want %d", plus, minus, d, e, wantErr)
	}
	if n, e := x.Do(d); n != want || e != wantErr {
		t.Errorf("%b, %b: Do(%+v): %d, %d; want %d, %d", plus, minus, d, n, e, want, wantErr)
	}
	if p, m := x.Masks(); wantErr != api.OK && (!slices.Equal(p, plus) || !slices.Equal(m, minus)) {
		t.Errorf("%+v failed, and made %b, %b of %b, %b", d, p, m, plus, minus)
	}
}

// P16.1: New

func TestNew(t *testing.T) {
	for people := 1; people <= 8; people++ {
		x, m := begin(t, people)
		hold(t, x, m)
		holdNobodies(t, x)
	}
	for _, people := range []int{0, -1, -2, -8, -255, -256, 9, 10, 16, 64, 255, 256, 257, 264, 1 << 31, 1 << 32, 1<<32 + 1, math.MinInt, math.MinInt + 1, math.MinInt32, math.MaxInt} {
		if x, e := caps.New(people); x != nil || e != api.ErrArg {
			t.Errorf("New(%d): %v, %d", people, x, e)
		}
	}
}

func TestNewTwice(t *testing.T) {
	a, _ := begin(t, 2)
	b, m := begin(t, 2)
	a.Do(makes(1))
	hold(t, b, m)
}

// P16.1: Load

// told is a table that many deeds made.
func told(t *testing.T) (*caps.Table, *model) {
	t.Helper()
	x, m := begin(t, 8)
	for _, d := range []api.Deed{
		makes(0), makes(7), makes(3), makes(3),
		gives(0, 1, 1, false), gives(1, 2, 1, false), gives(0, 7, 1, true), gives(7, 0, 2, true), gives(3, 4, 4, false), gives(3, 5, 4, true), gives(5, 6, 4, true), makes(7),
	} {
		if e := do(t, x, m, d); e != api.OK {
			t.Fatal(d, e)
		}
	}
	return x, m
}

func TestLoadOfMasksAsTheyWereTold(t *testing.T) {
	x, m := told(t)
	plus, minus := x.Masks()
	y, e := caps.Load(x.Tags(), plus, minus)
	if e != api.OK {
		t.Fatal(e)
	}
	hold(t, y, m)
	holdNobodies(t, y)
	for _, l := range lists([]uint64{1, 2, 3, 4, 5, 6}, 2) {
		for who := range 8 {
			holdClear(t, y, m, who, nil, l)
			holdClear(t, y, m, who, []uint64{2}, l)
		}
	}
	for seed := range uint64(40) { // both go on alike
		pick, n := picks(seed), m.clone()
		a, _ := caps.Load(m.tags, plus, minus)
		b, _ := load(t, m.tags, plus, minus)
		for range 60 {
			d := some(pick, n)
			do(t, a, n.clone(), d)
			do(t, b, n, d)
		}
		hold(t, a, n)
		hold(t, b, n)
	}
	hold(t, y, m)
}

// P16.1: a table without tags is as a new one.
func TestLoadOfEmptyMasks(t *testing.T) {
	for people := 1; people <= 8; people++ {
		x, m := load(t, 0, make([]uint64, people), make([]uint64, people))
		hold(t, x, m)
		tells(t, x, makes(people-1), 1, api.OK)
	}
}

func TestLoadOfHowManyMasks(t *testing.T) {
	for plus := range 20 {
		for minus := range 20 {
			p, d := make([]uint64, plus), make([]uint64, minus)
			x, e := caps.Load(3, p, d)
			if plus == minus && plus >= 1 && plus <= 8 {
				if e != api.OK || x.People() != plus {
					t.Errorf("Load of %d masks: %d", plus, e)
				}
			} else if x != nil || e != api.ErrArg {
				t.Errorf("Load of %d and %d masks: %v, %d", plus, minus, x, e)
			}
		}
	}
	for _, n := range []int{64, 255, 256, 257, 264, 1<<16 + 1} {
		l := make([]uint64, n)
		for _, x := range [][2][]uint64{{l, l}, {l, l[:1]}, {l[:8], l}} {
			if y, e := caps.Load(0, x[0], x[1]); y != nil || e != api.ErrArg {
				t.Errorf("Load of %d and %d masks: %v, %d", len(x[0]), len(x[1]), y, e)
			}
		}
	}
	for _, x := range [][2][]uint64{{nil, nil}, {{}, nil}, {nil, {}}, {{}, {}}, {{0}, nil}, {nil, {0}}} {
		if y, e := caps.Load(0, x[0], x[1]); y != nil || e != api.ErrArg {
			t.Errorf("Load of %v, %v: %v, %d", x[0], x[1], y, e)
		}
	}
}

func TestLoadOfHowManyTags(t *testing.T) {
	for tags := 0; tags <= 16; tags++ {
		x, m := load(t, tags, []uint64{0, 0}, []uint64{0, 0})
		hold(t, x, m)
		if tags < 16 {
			tells(t, x, makes(1), uint64(tags+1), api.OK)
		} else {
			tells(t, x, makes(1), 0, api.ErrLong)
		}
	}
	for _, tags := range []int{-1, -2, -16, -63, -64, math.MinInt, math.MinInt32, 17, 18, 32, 63, 64, 65, 255, 256, 257, 1 << 32, 1<<32 + 1, math.MaxInt} {
		if x, e := caps.Load(tags, []uint64{0, 0}, []uint64{0, 0}); x != nil || e != api.ErrArg {
			t.Errorf("Load of %d tags: %v, %d", tags, x, e)
		}
	}
}

// P16.1: a mask has the last tag that was made, and none above it, whoever's it is.
func TestLoadOfMasksThatHaveATagAbove(t *testing.T) {
	for tags := 0; tags <= 16; tags++ {
		for tag := 1; tag <= 64; tag++ {
			for who := range 8 {
				for _, people := range []int{who + 1, 8} {
					for _, mask := range []uint64{bitOf(tag), bitOf(tag) | 1, bitOf(tag) | (1<<tags - 1)} {
						l, other := make([]uint64, people), make([]uint64, people)
						l[who] = mask
						loads(t, tags, l, other, tag <= tags && mask>>tags == 0)
						loads(t, tags, other, l, tag <= tags && mask>>tags == 0)
					}
				}
			}
		}
	}
	full := uint64(1<<16 - 1)
	loads(t, 16, []uint64{full, full}, []uint64{full, full}, true)
	loads(t, 16, []uint64{full, full}, []uint64{full, 1 << 16}, false)
	loads(t, 15, []uint64{full}, []uint64{full}, false)
	loads(t, 16, []uint64{math.MaxUint64}, []uint64{0}, false)
	loads(t, 16, []uint64{0}, []uint64{math.MaxUint64}, false)
}

// loads loads masks that may be loaded, or that may not.
func loads(t *testing.T, tags int, plus, minus []uint64, right bool) {
	t.Helper()
	if right {
		x, m := load(t, tags, plus, minus)
		hold(t, x, m)
		return
	}
	if x, e := caps.Load(tags, plus, minus); x != nil || e != api.ErrArg {
		t.Fatalf("Load(%d, %b, %b): %v, %d", tags, plus, minus, x, e)
	}
}

// P16.1: masks are loaded as they stand: nobody asks who made a tag, nor whether who may drop it may see it.
func TestLoadOfRightsThatNoDeedsMake(t *testing.T) {
	x, m := load(t, 3, []uint64{0, 1, 4}, []uint64{2, 0, 4})
	hold(t, x, m)
	tells(t, x, gives(1, 0, 1, false), 1, api.OK)
	tells(t, x, gives(1, 0, 1, true), 0, api.ErrClear) // nobody has it there
	tells(t, x, gives(0, 1, 2, false), 0, api.ErrClear)
	tells(t, x, gives(0, 1, 2, true), 2, api.OK)
	tells(t, x, gives(2, 1, 3, true), 3, api.OK)
	tells(t, x, makes(0), 4, api.OK)
	if x.Clear(0, nil, []uint64{2}) || !x.MayDrop(0, 2) || !x.MayDrop(1, 2) || !x.Clear(0, nil, []uint64{1, 4}) {
		t.Error(x.Masks())
	}
}

// P16.1: Check and Do

func TestKinds(t *testing.T) {
	for _, kind := range []int{0, 3, -1, -2, 4, 16, 255, 256, 257, 258, -255, -254, 1 << 32, 1<<32 + 1, 1<<32 + 2, math.MinInt, math.MinInt + 1, math.MaxInt} {
		x, _ := load(t, 2, []uint64{3, 0}, []uint64{3, 0})
		for _, d := range []api.Deed{makes(0), makes(1), gives(0, 1, 1, false), gives(0, 1, 2, true), gives(0, 0, 1, false), gives(1, 0, 1, false), gives(0, 1, 3, false), gives(0, 2, 1, false)} {
			d.Kind = kind
			tells(t, x, d, 0, api.ErrArg)
		}
	}
	x, _ := load(t, 2, []uint64{3, 0}, []uint64{3, 0})
	tells(t, x, api.Deed{Kind: 1}, 3, api.OK)
	tells(t, x, api.Deed{Kind: 2, To: 1, Tag: 3}, 3, api.OK)
}

func TestWhoAndTo(t *testing.T) {
	for people := 1; people <= 8; people++ {
		for who := range people {
			for to := range people {
				x, m := begin(t, people)
				do(t, x, m, makes(who))
				for _, minus := range []bool{false, true} {
					want := api.OK
					if to == who {
						want = api.ErrThere
					}
					if e := do(t, x, m, gives(who, to, 1, minus)); e != want {
						t.Errorf("of %d: %d gives %d: %d", people, who, to, e)
					}
				}
				hold(t, x, m)
			}
		}
		x, m := begin(t, people)
		do(t, x, m, makes(people-1))
		for _, who := range nobodies(people) {
			if who >= 0 && who < people {
				continue
			}
			tells(t, x, makes(who), 0, api.ErrArg)
			tells(t, x, gives(who, 0, 1, false), 0, api.ErrArg)
			tells(t, x, gives(people-1, who, 1, false), 0, api.ErrArg)
			tells(t, x, gives(people-1, who, 1, true), 0, api.ErrArg)
			tells(t, x, gives(who, who, 1, false), 0, api.ErrArg)
		}
		hold(t, x, m)
	}
}

// P16.1: of a tag that is made the other fields are 0, those that would be right for a tag that is given too.
func TestMakeOfWhatShouldBeNone(t *testing.T) {
	x, m := load(t, 2, []uint64{3, 0, 0}, []uint64{3, 0, 0})
	for _, d := range []api.Deed{
		{Kind: 1, To: 1}, {Kind: 1, To: 2}, {Kind: 1, To: 3}, {Kind: 1, To: -1}, {Kind: 1, To: 256}, {Kind: 1, To: 1 << 32}, {Kind: 1, To: math.MinInt},
		{Kind: 1, Tag: 1}, {Kind: 1, Tag: 2}, {Kind: 1, Tag: 3}, {Kind: 1, Tag: 16}, {Kind: 1, Tag: 256}, {Kind: 1, Tag: 1 << 32}, {Kind: 1, Tag: 1 << 63}, {Kind: 1, Tag: math.MaxUint64},
		{Kind: 1, Minus: true}, {Kind: 1, Who: 1, To: 1}, {Kind: 1, Who: 2, Tag: 3}, {Kind: 1, Who: 2, Minus: true}, {Kind: 1, To: 1, Tag: 1, Minus: true},
	} {
		tells(t, x, d, 0, api.ErrArg)
	}
	hold(t, x, m)
	tells(t, x, api.Deed{Kind: 1}, 3, api.OK)
}

func TestMakeTillThereAreAsManyAsMayBe(t *testing.T) {
	x, m := begin(t, 3)
	for tag := 1; tag <= 16; tag++ {
		if e := do(t, x, m, makes(tag%3)); e != api.OK || x.Tags() != tag {
			t.Fatal(tag, e)
		}
		if !x.MayDrop(tag%3, uint64(tag)) || !x.Clear(tag%3, nil, []uint64{uint64(tag)}) || x.MayDrop((tag+1)%3, uint64(tag)) || x.Clear((tag+1)%3, nil, []uint64{uint64(tag)}) {
			t.Error(x.Masks())
		}
		hold(t, x, m)
	}
	for range 3 {
		for who := range 3 {
			tells(t, x, makes(who), 0, api.ErrLong)
		}
	}
	hold(t, x, m)
	tells(t, x, gives(1, 0, 16, true), 16, api.OK) // giving goes on
	tells(t, x, gives(0, 2, 16, true), 16, api.OK)
	tells(t, x, gives(0, 2, 17, true), 0, api.ErrNone)
	if !slices.Equal(x.Plus(0), []uint64{3, 6, 9, 12, 15}) || !slices.Equal(x.Minus(0), []uint64{3, 6, 9, 12, 15, 16}) {
		t.Error(x.Plus(0), x.Minus(0))
	}
}

func TestGiveOfWhichTag(t *testing.T) {
	for tags := 0; tags <= 16; tags++ {
		x, m := begin(t, 2)
		for range tags {
			do(t, x, m, makes(0))
		}
		for _, tag := range someTags() {
			for _, minus := range []bool{false, true} {
				if tag >= 1 && tag <= uint64(tags) {
					tells(t, x, gives(1, 0, tag, minus), 0, api.ErrClear)
					tells(t, x, gives(0, 1, tag, minus), tag, api.OK)
					tells(t, x, gives(0, 1, tag, minus), 0, api.ErrThere)
					tells(t, x, gives(1, 0, tag, minus), 0, api.ErrThere)
				} else {
					tells(t, x, gives(0, 1, tag, minus), 0, api.ErrNone)
					tells(t, x, gives(1, 1, tag, minus), 0, api.ErrNone)
				}
			}
		}
		if !slices.Equal(x.Plus(1), x.Plus(0)) || !slices.Equal(x.Minus(1), x.Minus(0)) || len(x.Plus(1)) != tags || x.Tags() != tags {
			t.Error(tags, x.Plus(1), x.Minus(1))
		}
	}
}

// P16.1: to be given the one right isn't to have the other, and one that has the one can't give the other.
func TestPlusAndMinusAreApart(t *testing.T) {
	x, _ := begin(t, 4)
	tells(t, x, makes(0), 1, api.OK)
	tells(t, x, gives(0, 1, 1, false), 1, api.OK)
	if x.MayDrop(1, 1) || !x.Clear(1, nil, []uint64{1}) {
		t.Error(x.Masks())
	}
	tells(t, x, gives(1, 2, 1, true), 0, api.ErrClear)
	tells(t, x, gives(1, 1, 1, true), 0, api.ErrClear) // not to oneself either
	tells(t, x, gives(0, 2, 1, true), 1, api.OK)
	if !x.MayDrop(2, 1) || x.Clear(2, nil, []uint64{1}) {
		t.Error(x.Masks())
	}
	tells(t, x, gives(2, 3, 1, false), 0, api.ErrClear)
	tells(t, x, gives(2, 2, 1, false), 0, api.ErrClear)
	tells(t, x, gives(2, 1, 1, true), 1, api.OK) // has it of one who had it, and has both now
	tells(t, x, gives(1, 2, 1, false), 1, api.OK)
	tells(t, x, gives(2, 3, 1, false), 1, api.OK)
	tells(t, x, gives(3, 0, 1, true), 0, api.ErrClear)
	if !slices.Equal(x.Plus(3), []uint64{1}) || len(x.Minus(3)) != 0 {
		t.Error(x.Plus(3), x.Minus(3))
	}
}

func TestGiveOfWhatIsThere(t *testing.T) {
	x, _ := begin(t, 3)
	tells(t, x, makes(1), 1, api.OK)
	tells(t, x, gives(1, 1, 1, false), 0, api.ErrThere) // to oneself
	tells(t, x, gives(1, 1, 1, true), 0, api.ErrThere)
	tells(t, x, gives(1, 0, 1, false), 1, api.OK)
	tells(t, x, gives(1, 0, 1, false), 0, api.ErrThere)
	tells(t, x, gives(0, 1, 1, false), 0, api.ErrThere) // back to who made it
	tells(t, x, gives(0, 0, 1, false), 0, api.ErrThere)
	tells(t, x, gives(0, 2, 1, false), 1, api.OK)
	tells(t, x, gives(1, 2, 1, false), 0, api.ErrThere)
	tells(t, x, gives(1, 2, 1, true), 1, api.OK) // it has the other one alone
	tells(t, x, gives(1, 2, 1, true), 0, api.ErrThere)
}

// P16.1: where two errors apply, the first one is told: for each pair that there can be.
func TestWhichErrorIsFirst(t *testing.T) {
	all := uint64(1<<16 - 1)
	full, _ := load(t, 16, []uint64{all, 0}, []uint64{all, 0})
	few, _ := load(t, 2, []uint64{1, 2, 0}, []uint64{1, 2, 0})
	for _, x := range []struct {
		table *caps.Table
		d     api.Deed
		want  api.Errno
	}{
		{full, api.Deed{Kind: 0}, api.ErrArg}, // ahead of ErrLong
		{full, makes(2), api.ErrArg},
		{full, makes(-1), api.ErrArg},
		{full, api.Deed{Kind: 1, To: 1}, api.ErrArg},
		{full, api.Deed{Kind: 1, Tag: 16}, api.ErrArg},
		{full, api.Deed{Kind: 1, Tag: 17}, api.ErrArg},
		{full, api.Deed{Kind: 1, Minus: true}, api.ErrArg},
		{full, makes(1), api.ErrLong},
		{few, api.Deed{Kind: 3, To: 1, Tag: 3}, api.ErrArg}, // ahead of ErrNone
		{few, gives(3, 1, 3, false), api.ErrArg},
		{few, gives(0, 3, 3, false), api.ErrArg},
		{few, gives(0, -1, 0, true), api.ErrArg},
		{few, gives(-1, 3, 0, true), api.ErrArg},
		{few, api.Deed{Kind: 3, To: 1, Tag: 2}, api.ErrArg}, // ahead of ErrClear
		{few, gives(3, 1, 1, false), api.ErrArg},
		{few, gives(0, 3, 2, false), api.ErrArg},
		{few, gives(2, -1, 2, true), api.ErrArg},
		{few, api.Deed{Kind: 3, Who: 1, To: 1, Tag: 2}, api.ErrArg}, // ahead of ErrThere
		{few, gives(3, 1, 2, false), api.ErrArg},
		{few, gives(-1, 0, 1, true), api.ErrArg},
		{few, gives(0, 2, 3, false), api.ErrNone}, // ahead of ErrClear: nobody has it
		{few, gives(2, 0, 3, true), api.ErrNone},
		{few, gives(0, 0, 0, false), api.ErrNone},
		{few, gives(1, 0, 1, false), api.ErrClear}, // ahead of ErrThere
		{few, gives(2, 0, 1, true), api.ErrClear},
		{few, gives(0, 1, 2, true), api.ErrClear},
		{few, gives(0, 0, 1, false), api.ErrThere},
	} {
		tells(t, x.table, x.d, 0, x.want)
	}
}

// P16.2: Clear

func TestClear(t *testing.T) {
	x, _ := load(t, 6, []uint64{0b000111, 0, 0b100000}, []uint64{0b011000, 0b111111, 0})
	for _, y := range []struct {
		who   int
		at, l []uint64
		want  bool
	}{
		{0, nil, nil, true}, // what is public
		{1, nil, nil, true},
		{2, []uint64{1, 2}, nil, true},
		{0, nil, []uint64{1, 2, 3}, true}, // in PLUS alone
		{0, nil, []uint64{2}, true},
		{2, nil, []uint64{6}, true},
		{2, nil, []uint64{5, 6}, false},
		{1, []uint64{1, 2, 3}, []uint64{1, 2, 3}, true}, // in the label alone
		{1, []uint64{1, 2, 3}, []uint64{2}, true},
		{1, []uint64{1, 3}, []uint64{2}, false},
		{1, []uint64{1, 3}, []uint64{1, 2, 3}, false},
		{1, nil, []uint64{1}, false},
		{0, []uint64{4, 6}, []uint64{1, 2, 3, 4, 6}, true}, // partly in each
		{0, []uint64{4, 6}, []uint64{1, 4, 5}, false},
		{0, []uint64{1, 4}, []uint64{1, 4}, true}, // in both
		{0, nil, []uint64{4}, false},              // in MINUS alone
		{0, nil, []uint64{4, 5}, false},
		{1, nil, []uint64{1, 2, 3, 4, 5, 6}, false},
		{0, []uint64{4}, []uint64{4}, true},
		{0, nil, []uint64{7}, false}, // a tag that wasn't made
		{0, []uint64{7}, []uint64{7}, true},
		{0, []uint64{7}, []uint64{1, 7}, true},
		{0, []uint64{8}, []uint64{7}, false},
		{0, nil, []uint64{17}, false},
		{0, nil, []uint64{0}, false}, // 0 is one of a list like any other number
		{0, []uint64{0}, []uint64{0}, true},
		{0, []uint64{1}, []uint64{0}, false},
		{0, []uint64{0}, []uint64{0, 1}, true},
		{0, nil, []uint64{64}, false}, // beyond 64
		{0, nil, []uint64{65}, false},
		{0, nil, []uint64{66, 67}, false},
		{0, nil, []uint64{1<<32 + 1}, false},
		{0, nil, []uint64{math.MaxUint64}, false},
		{0, []uint64{65}, []uint64{65}, true},
		{0, []uint64{2, math.MaxUint64}, []uint64{1, math.MaxUint64}, true},
		{0, []uint64{1}, []uint64{65}, false},
		{0, []uint64{65}, []uint64{4}, false},
		{0, nil, []uint64{3, 2, 1}, true}, // no labels: falling, or with a tag twice
		{0, []uint64{9, 4}, []uint64{9, 3, 4, 1}, true},
		{0, []uint64{6, 4}, []uint64{5, 4}, false},
		{0, []uint64{6, 5, 4}, []uint64{4, 5, 6}, true},
		{0, nil, []uint64{2, 2, 2, 1, 1}, true},
		{0, []uint64{4, 4}, []uint64{4, 4, 4}, true},
		{0, []uint64{4, 4}, []uint64{5, 5}, false},
		{0, []uint64{4, 5, 6, 7, 8, 9, 10, 11}, []uint64{1, 2, 3, 4, 5, 6, 7, 8, 9, 10, 11}, true}, // more than a label has
		{0, []uint64{4, 5, 6, 7, 8, 9, 10, 11}, []uint64{1, 2, 3, 4, 5, 6, 7, 8, 9, 10, 12}, false},
		{3, nil, nil, false}, // who there isn't
		{3, []uint64{1}, []uint64{1}, false},
		{-1, nil, nil, false},
		{-1, []uint64{1}, []uint64{1}, false},
		{math.MinInt, nil, nil, false},
		{math.MaxInt, []uint64{}, []uint64{}, false},
	} {
		if x.Clear(y.who, y.at, y.l) != y.want {
			t.Errorf("Clear(%d, %d, %d): %v", y.who, y.at, y.l, !y.want)
		}
	}
}

// P16.2: each one of a list counts, wherever it stands.
func TestClearButForOne(t *testing.T) {
	x, _ := load(t, 16, []uint64{0x00ff}, []uint64{0xff00})
	at := []uint64{9, 10, 11, 12, 13, 14, 15}
	right := []uint64{1, 9, 2, 10, 3, 11, 4, 12, 5, 13, 6, 14, 7, 15, 8}
	if !x.Clear(0, at, right) {
		t.Error(right)
	}
	for i := range right {
		for _, tag := range []uint64{0, 16, 17, 64, 65, 73, 1<<32 + 1, math.MaxUint64} {
			l := slices.Clone(right)
			l[i] = tag
			if x.Clear(0, at, l) {
				t.Error(l)
			}
		}
	}
}

// P16.2: long lists, in the worst order too, come to an end soon.
func TestClearOfLongLists(t *testing.T) {
	x, _ := load(t, 2, []uint64{3}, []uint64{0})
	var at, l []uint64
	for tag := uint64(300000); tag >= 3; tag-- {
		at = append(at, tag)
		l = append(l, tag, 1+tag%2)
	}
	if !x.Clear(0, at, l) || x.Clear(0, at[1:], l) || x.Clear(0, at[:len(at)-1], l) || x.Clear(0, at, append(l, 0)) {
		t.Error("long lists")
	}
}

// P16.2: MayDrop, Plus, Minus, Masks

func TestMayDrop(t *testing.T) {
	x, m := load(t, 16, []uint64{0xffff, 0, 0x00f0}, []uint64{0, 0x8001, 0x0f00})
	hold(t, x, m)
	for _, tag := range []uint64{1, 16} {
		if x.MayDrop(0, tag) || !x.MayDrop(1, tag) || x.MayDrop(2, tag) || x.MayDrop(3, tag) || x.MayDrop(-1, tag) {
			t.Error(tag)
		}
	}
	for _, tag := range []uint64{0, 2, 15, 17, 32, 64, 65, 80, 128, 129, 1 << 32, 1<<32 + 1, 1 << 63, 1<<63 + 1, math.MaxUint64} {
		for who := -1; who <= 3; who++ {
			if x.MayDrop(who, tag) {
				t.Error(who, tag)
			}
		}
	}
	y, _ := load(t, 1, []uint64{1}, []uint64{1})
	if !y.MayDrop(0, 1) || y.MayDrop(0, 2) || y.MayDrop(0, 0) {
		t.Error("of one tag")
	}
}

func TestSetsAndMasks(t *testing.T) {
	x, _ := begin(t, 2)
	told := func(tags int, plus, minus [2]uint64, sets ...[]uint64) {
		t.Helper()
		if p, d := x.Masks(); !slices.Equal(p, plus[:]) || !slices.Equal(d, minus[:]) || x.People() != 2 || x.Tags() != tags {
			t.Errorf("%d tags, %b, %b", x.Tags(), p, d)
		}
		for i, l := range [][]uint64{x.Plus(0), x.Minus(0), x.Plus(1), x.Minus(1)} {
			if !slices.Equal(l, sets[i]) {
				t.Errorf("%d: %v; want %v", i, l, sets[i])
			}
		}
		holdNobodies(t, x)
	}
	told(0, [2]uint64{}, [2]uint64{}, nil, nil, nil, nil)
	x.Do(makes(1))
	told(1, [2]uint64{0, 1}, [2]uint64{0, 1}, nil, nil, []uint64{1}, []uint64{1})
	x.Do(makes(0))
	told(2, [2]uint64{2, 1}, [2]uint64{2, 1}, []uint64{2}, []uint64{2}, []uint64{1}, []uint64{1})
	x.Do(gives(0, 1, 2, true))
	told(2, [2]uint64{2, 1}, [2]uint64{2, 3}, []uint64{2}, []uint64{2}, []uint64{1}, []uint64{1, 2})
	x.Do(gives(1, 0, 1, false))
	told(2, [2]uint64{3, 1}, [2]uint64{2, 3}, []uint64{1, 2}, []uint64{2}, []uint64{1}, []uint64{1, 2})
	for range 14 {
		x.Do(makes(1))
	}
	told(16, [2]uint64{3, 0xfffd}, [2]uint64{2, 0xffff}, []uint64{1, 2}, []uint64{2}, []uint64{1, 3, 4, 5, 6, 7, 8, 9, 10, 11, 12, 13, 14, 15, 16}, []uint64{1, 2, 3, 4, 5, 6, 7, 8, 9, 10, 11, 12, 13, 14, 15, 16})
}

// Rule 3: what is handed in is neither changed nor kept; what is answered is new memory.

func TestLoadKeepsNothing(t *testing.T) {
	plus, minus := roomy([]uint64{3, 1, 0}), roomy([]uint64{2, 1, 0})
	x, m := load(t, 2, plus, minus)
	for _, d := range []api.Deed{makes(2), gives(0, 2, 1, false), gives(1, 0, 1, true), gives(2, 1, 3, false), gives(2, 1, 3, true)} {
		if e := do(t, x, m, d); e != api.OK {
			t.Fatal(d, e)
		}
	}
	if !asRoomy(plus, []uint64{3, 1, 0}) || !asRoomy(minus, []uint64{2, 1, 0}) {
		t.Error("changed to", plus, minus)
	}
	for i := range plus {
		plus[i], minus[i] = 0, 0
	}
	hold(t, x, m)
}

// Rule 3: one list may be handed in as both.
func TestLoadOfOneListAsBoth(t *testing.T) {
	l := []uint64{1, 0}
	x, m := load(t, 1, l, l)
	do(t, x, m, gives(0, 1, 1, false))
	hold(t, x, m)
	if !slices.Equal(l, []uint64{1, 0}) || x.MayDrop(1, 1) {
		t.Error(l, x.Minus(1))
	}
}

func TestAnswersAreNewMemory(t *testing.T) {
	x, m := told(t)
	answers := func() [][]uint64 {
		plus, minus := x.Masks()
		l := [][]uint64{plus, minus}
		for who := range 8 {
			l = append(l, x.Plus(who), x.Minus(who), x.Plus(who))
		}
		return l
	}
	kept, was := answers(), answers()
	more := m.clone()
	for _, d := range []api.Deed{makes(0), makes(6), gives(3, 0, 3, false), gives(7, 1, 2, true), gives(0, 6, 1, false), gives(6, 0, 7, true)} {
		if e := do(t, x, more, d); e != api.OK {
			t.Fatal(d, e)
		}
	}
	for i := range kept { // what was told stays when the table is changed
		if !slices.Equal(kept[i], was[i]) {
			t.Errorf("answer %d changed from %v to %v", i, was[i], kept[i])
		}
	}
	for i, l := range kept { // the table stays when what was told is changed, its spare room too, and so do the other answers
		others := slices.Concat(slices.Concat(kept[:i]...), slices.Concat(kept[i+1:]...))
		l = l[:cap(l)]
		for j := range l {
			l[j] = 99
		}
		if !slices.Equal(others, slices.Concat(slices.Concat(kept[:i]...), slices.Concat(kept[i+1:]...))) {
			t.Errorf("answer %d shares memory with another one", i)
		}
		hold(t, x, more)
	}
}

func TestClearChangesNothing(t *testing.T) {
	x, m := told(t)
	for _, first := range [][]uint64{{5, 2}, {2, 5}, {9, 1, 9}, {}, {4, 3, 2, 1, 0}} {
		for _, second := range [][]uint64{{1, 2}, {2, 1}, {9, 9}, {}, {5, 2}, {0}} {
			at, l := roomy(first), roomy(second)
			for who := -1; who <= 8; who++ {
				holdClear(t, x, m, who, at, l)
				holdClear(t, x, m, who, at, at)
			}
			if !asRoomy(at, first) || !asRoomy(l, second) {
				t.Errorf("%v, %v: changed to %v, %v", first, second, at, l)
			}
		}
	}
	hold(t, x, m)
}

// A nil table

func TestNil(t *testing.T) {
	var x *caps.Table
	for _, d := range []api.Deed{makes(0), makes(-1), gives(0, 0, 1, false), gives(0, 1, 1, true), {}, {Kind: 3}} {
		if e := x.Check(d); e != api.ErrNil {
			t.Errorf("Check(%+v): %d", d, e)
		}
		if n, e := x.Do(d); n != 0 || e != api.ErrNil {
			t.Errorf("Do(%+v): %d, %d", d, n, e)
		}
	}
	for _, who := range []int{-1, 0, 1, math.MinInt, math.MaxInt} {
		if x.Clear(who, nil, nil) || x.Clear(who, []uint64{1}, []uint64{1}) || x.MayDrop(who, 0) || x.MayDrop(who, 1) || len(x.Plus(who)) != 0 || len(x.Minus(who)) != 0 {
			t.Error("a nil table has", who)
		}
	}
	if p, d := x.Masks(); x.People() != 0 || x.Tags() != 0 || len(p) != 0 || len(d) != 0 {
		t.Error(x.People(), x.Tags(), p, d)
	}
}

// Rule 1: none panics, not on a table that no call made either.
func TestNoneMade(t *testing.T) {
	var x caps.Table
	for _, d := range []api.Deed{makes(0), gives(0, 0, 1, false), gives(0, 1, 1, true), {}} {
		x.Check(d)
		x.Do(d)
	}
	x.Clear(0, nil, []uint64{1})
	x.MayDrop(0, 1)
	x.Plus(0)
	x.Minus(0)
	x.Masks()
	x.People()
	x.Tags()
}

// The chapter's example.
func TestExample(t *testing.T) {
	x, _ := begin(t, 2)
	tells(t, x, makes(0), 1, api.OK)
	tells(t, x, gives(0, 1, 1, false), 1, api.OK)
	if !x.Clear(1, nil, []uint64{1}) || x.MayDrop(1, 1) || !x.MayDrop(0, 1) {
		t.Error(x.Masks())
	}
}
