package wset_test

import (
	"fmt"
	"math"
	"slices"
	"strings"
	"testing"
	"unsafe"

	"cloisonne/api"
	"cloisonne/value"
	"cloisonne/wset"
)

const (
	oneBits = 0x3FF0000000000000
	nanBits = 0x7FF8000000000001
)

func text(s string) api.Value               { return api.Value{Text: s} }
func long(n int) string                     { return strings.Repeat("k", n) }
func put(key string, v api.Value) api.Write { return api.Write{Key: key, Value: v} }
func gone(key string) api.Write             { return api.Write{Key: key, Gone: true} }
func list(l ...api.Write) []api.Write       { return l }
func same(s *wset.Set, l ...api.Write) bool { return slices.Equal(s.All(), l) && s.Len() == len(l) }

// filled has a write of each key.
func filled(t *testing.T, keys []string) *both {
	b := begin(t)
	for i, key := range keys {
		b.put(key, text(fmt.Sprint(i)))
	}
	return b
}

// rightKeys may be: of one byte, whichever it is, to MaxKey bytes.
func rightKeys() []string {
	var l []string
	for c := range 256 {
		l = append(l, string([]byte{byte(c)}))
	}
	for n := 2; n <= 32; n++ {
		l = append(l, long(n), strings.Repeat("\x00", n), strings.Repeat("\xff", n))
	}
	return append(l, "Öl", "\x80\xfe", strings.Repeat("ö", 16))
}

// wrongKeys may not be: none, or of more than MaxKey bytes.
func wrongKeys() []string {
	l := []string{"", strings.Repeat("ö", 17), strings.Repeat("\x00", 33), strings.Repeat("\xff", 33)}
	for _, n := range []int{33, 34, 63, 64, 65, 200, 255, 256, 257, 256 + 32, 5000, 65536 + 1} {
		l = append(l, long(n))
	}
	return l
}

// rightValues may be.
func rightValues() []api.Value {
	l := []api.Value{{}, text("a"), text("\x00"), text(long(63)), text(long(64)), text(strings.Repeat("\xff", 64))}
	for _, x := range []float64{0, math.Copysign(0, -1), 1, -1, 5e-324, math.MaxFloat64, math.Inf(1), math.Inf(-1), math.NaN()} {
		l = append(l, value.Number(x))
	}
	return l
}

// wrongValues may not be: too long a text, a text beside a number, bits that no number has, bits without a number.
func wrongValues() []api.Value {
	return []api.Value{
		text(long(65)), text(long(66)), text(long(255)), text(long(256)), text(long(256 + 64)), text(long(5000)),
		{Number: true, Text: "x"}, {Number: true, Text: "\x00"}, {Number: true, Text: "x", Bits: oneBits}, {Number: true, Text: long(65)},
		{Number: true, Bits: nanBits + 1}, {Number: true, Bits: nanBits - 1}, {Number: true, Bits: 0x7FF0000000000001}, {Number: true, Bits: math.MaxUint64},
		{Bits: 1}, {Bits: oneBits}, {Bits: nanBits}, {Text: "x", Bits: 1}, {Text: long(65), Bits: 1},
	}
}

// manyKeys are twenty, rising: more than a set takes.
func manyKeys() []string {
	var l []string
	for c := 'a'; c < 'a'+20; c++ {
		l = append(l, string(c))
	}
	return l
}

// sixteenKeys are as many as a set takes, rising, of all kinds.
func sixteenKeys() []string {
	return []string{
		"\x00", "\x00\x00", "\x00\x01", "\x01", "A", "a", "a\x00", "aa", "ab", "b",
		long(31), long(32), "z", "\x7f", "\x80", strings.Repeat("\xff", 32),
	}
}

// orders are many orders of so many things, each as their places.
func orders(n int) [][]int {
	var l [][]int
	for _, stride := range []int{1, 3, 5, 7, 9, 11, 13, 15} {
		for start := range n {
			var order []int
			for i := range n {
				order = append(order, (start+i*stride)%n)
			}
			back := slices.Clone(order)
			slices.Reverse(back)
			l = append(l, order, back)
		}
	}
	return l
}

// P12.1

func TestPutAndDelOfRightKeys(t *testing.T) {
	for _, key := range rightKeys() {
		s := wset.New()
		if e := s.Put(key, text("x")); e != api.OK || !same(s, put(key, text("x"))) {
			t.Errorf("Put(%q): %d, %v", key, e, s.All())
		}
		s = wset.New()
		if e := s.Del(key); e != api.OK || !same(s, gone(key)) {
			t.Errorf("Del(%q): %d, %v", key, e, s.All())
		}
	}
}

func TestPutAndDelOfWrongKeys(t *testing.T) {
	for _, key := range wrongKeys() {
		b := filled(t, []string{"a", "b"})
		if e := b.s.Put(key, text("x")); e != api.ErrArg {
			t.Errorf("Put of %d bytes: %d", len(key), e)
		}
		if e := b.s.Put(key, text(long(65))); e != api.ErrArg {
			t.Errorf("Put of %d bytes, and a wrong value: %d", len(key), e)
		}
		if e := b.s.Del(key); e != api.ErrArg {
			t.Errorf("Del of %d bytes: %d", len(key), e)
		}
		b.hold()
	}
}

func TestKeysOfAllLengths(t *testing.T) {
	for n := range 600 {
		want := api.OK
		if n < 1 || n > 32 {
			want = api.ErrArg
		}
		if e := wset.New().Put(long(n), text("x")); e != want {
			t.Errorf("Put of %d bytes: %d", n, e)
		}
		if e := wset.New().Del(long(n)); e != want {
			t.Errorf("Del of %d bytes: %d", n, e)
		}
	}
}

func TestPutOfRightValues(t *testing.T) {
	s := wset.New()
	for _, v := range rightValues() {
		if e := s.Put("k", v); e != api.OK || !same(s, put("k", v)) {
			t.Errorf("Put(%v): %d, %v", v, e, s.All())
		}
	}
}

func TestPutOfWrongValues(t *testing.T) {
	for _, v := range wrongValues() {
		b := filled(t, []string{"a", "c"})
		b.del("d")
		for _, key := range []string{"a", "b", "c", "d", "e"} { // of a key that has a write, that one stays
			if e := b.s.Put(key, v); e != api.ErrArg {
				t.Errorf("Put(%q, %v): %d", key, v, e)
			}
		}
		b.hold()
	}
}

func TestPutBehindDelAndDelBehindPut(t *testing.T) {
	for _, keys := range [][]string{{"k"}, {"a", "k"}, {"k", "z"}, {"a", "k", "z"}} {
		b := filled(t, keys)
		n := b.s.Len()
		for _, v := range rightValues() {
			b.put("k", v)
			b.hold()
			b.del("k") // what it had is seen no more
			b.hold()
			if w, ok := b.s.Get("k"); w != gone("k") || !ok {
				t.Errorf("Del behind Put: %v, %v", w, ok)
			}
			b.del("k")
			b.hold()
			b.put("k", v)
			b.hold()
			if w, ok := b.s.Get("k"); w != put("k", v) || !ok || b.s.Len() != n {
				t.Errorf("Put behind Del: %v, %v, of %d", w, ok, b.s.Len())
			}
		}
	}
}

func TestDelOfAKeyWithoutAWrite(t *testing.T) {
	s := wset.New()
	if s.Del("b") != api.OK || !same(s, gone("b")) {
		t.Error("of an empty set:", s.All())
	}
	s.Put("d", text("x"))
	if s.Del("a") != api.OK || s.Del("c") != api.OK || s.Del("e") != api.OK {
		t.Error("Del")
	}
	if !same(s, gone("a"), gone("b"), gone("c"), put("d", text("x")), gone("e")) {
		t.Error(s.All())
	}
}

func TestSixteenAndOneMore(t *testing.T) {
	for _, dels := range []bool{false, true} { // writes that are Gone count, too
		b := begin(t)
		keys := manyKeys()
		for i, key := range keys[1:17] {
			if b.s.Len() != i {
				t.Fatalf("%d writes behind %d", b.s.Len(), i)
			}
			e := b.put(key, text("x"))
			if dels {
				e = b.del(key)
			}
			if e != api.OK {
				t.Fatalf("the write %d: %d", i+1, e)
			}
		}
		for _, key := range []string{keys[0], keys[17], keys[18], keys[8] + "\x00", long(32)} {
			if e, d := b.s.Put(key, text("")), b.s.Del(key); e != api.ErrBig || d != api.ErrBig {
				t.Errorf("one more, %q: %d, %d", key, e, d)
			}
		}
		b.hold()
		for _, key := range keys[1:17] {
			if e, d, f := b.put(key, text("y")), b.del(key), b.put(key, value.Number(1)); e != api.OK || d != api.OK || f != api.OK {
				t.Errorf("%q has a write: %d, %d, %d", key, e, d, f)
			}
			b.hold()
		}
		if e := b.s.Put("zz", text("")); e != api.ErrBig {
			t.Errorf("one more: %d", e)
		}
	}
}

func TestArgAheadOfBig(t *testing.T) {
	b := filled(t, sixteenKeys())
	for _, key := range wrongKeys() {
		if e, d := b.s.Put(key, text("x")), b.s.Del(key); e != api.ErrArg || d != api.ErrArg {
			t.Errorf("%d bytes: %d, %d", len(key), e, d)
		}
	}
	for _, v := range wrongValues() {
		if e := b.s.Put("no write yet", v); e != api.ErrArg {
			t.Errorf("%v: %d", v, e)
		}
		if e := b.s.Put("a", v); e != api.ErrArg {
			t.Errorf("%v, of a key that has a write: %d", v, e)
		}
	}
	b.hold()
}

func TestGetAfterSeek(t *testing.T) {
	s := wset.New()
	b, d, f := put("b", text("1")), gone("d"), put("f", value.Number(2))
	s.Put("f", value.Number(2))
	s.Del("d")
	s.Put("b", text("1"))
	none := api.Write{}
	for key, want := range map[string][3]api.Write{ // Get, After, Seek
		"":      {none, b, b},
		"\x00":  {none, b, b},
		"a":     {none, b, b},
		"azz":   {none, b, b},
		"b":     {b, d, b},
		"b\x00": {none, d, d},
		"c":     {none, d, d},
		"d":     {d, f, d},
		"d\x00": {none, f, f},
		"e":     {none, f, f},
		"f":     {f, none, f},
		"f\x00": {none, none, none},
		"g":     {none, none, none},
		"\xff":  {none, none, none},
		// none of these may be a key
		strings.Repeat("a", 33):    {none, b, b},
		strings.Repeat("b", 33):    {none, d, d},
		strings.Repeat("c", 5000):  {none, d, d},
		strings.Repeat("d", 33):    {none, f, f},
		strings.Repeat("f", 33):    {none, none, none},
		strings.Repeat("\xff", 99): {none, none, none},
	} {
		w, ok := s.Get(key)
		if w != want[0] || ok != (want[0] != none) {
			t.Errorf("Get(%q): %v, %v", key, w, ok)
		}
		if w, ok = s.After(key); w != want[1] || ok != (want[1] != none) {
			t.Errorf("After(%q): %v, %v", key, w, ok)
		}
		if w, ok = s.Seek(key); w != want[2] || ok != (want[2] != none) {
			t.Errorf("Seek(%q): %v, %v", key, w, ok)
		}
	}
}

func TestWithoutWrites(t *testing.T) {
	s := wset.New()
	if s == nil || s.Len() != 0 || len(s.All()) != 0 || s.Marks() != 0 {
		t.Fatal(s)
	}
	for _, key := range []string{"", "a", "\x00", long(32), long(33)} {
		if w, ok := s.Get(key); ok || w != (api.Write{}) {
			t.Error(key, w)
		}
		if w, ok := s.After(key); ok || w != (api.Write{}) {
			t.Error(key, w)
		}
		if w, ok := s.Seek(key); ok || w != (api.Write{}) {
			t.Error(key, w)
		}
	}
}

func TestSetsAreNotOne(t *testing.T) {
	a, b := wset.New(), wset.New()
	a.Put("k", text("1"))
	a.Mark()
	if b.Len() != 0 || b.Marks() != 0 {
		t.Error(b.All())
	}
	b.Put("k", text("2"))
	if !same(a, put("k", text("1"))) {
		t.Error(a.All())
	}
}

func TestSixteenInWhateverOrder(t *testing.T) {
	keys := sixteenKeys()
	if !slices.IsSorted(keys) || len(keys) != 16 {
		t.Fatal(keys)
	}
	for _, order := range orders(len(keys)) {
		b := begin(t)
		for _, at := range order {
			if at%3 == 2 {
				b.del(keys[at])
			} else {
				b.put(keys[at], text(fmt.Sprint(at)))
			}
		}
		b.hold()
		var told []string
		for w, ok := b.s.Seek(""); ok; w, ok = b.s.After(w.Key) {
			told = append(told, w.Key)
		}
		if !slices.Equal(told, keys) || b.s.Len() != 16 {
			t.Fatalf("put in by %v: %q", order, told)
		}
	}
}

func TestFewInAllOrders(t *testing.T) {
	var all func(b []string, rest []string)
	all = func(had, rest []string) {
		if len(rest) == 0 {
			filled(t, had).hold()
		}
		for i, key := range rest {
			others := slices.Delete(slices.Clone(rest), i, i+1)
			all(append(slices.Clone(had), key), others)
		}
	}
	all(nil, []string{"a", "b", "c", "d", "e", "f"})
}

// P12.2

func TestMarks(t *testing.T) {
	b := begin(t)
	for n := 1; n <= 4; n++ {
		if k, e := b.s.Mark(); k != n || e != api.OK || b.s.Marks() != n {
			t.Errorf("the mark %d: %d, %d, of %d", n, k, e, b.s.Marks())
		}
	}
	for range 3 {
		if k, e := b.s.Mark(); k != 0 || e != api.ErrLong || b.s.Marks() != 4 {
			t.Errorf("one more: %d, %d, of %d", k, e, b.s.Marks())
		}
	}
	if b.s.Len() != 0 {
		t.Error(b.s.All())
	}
}

// marked has four marks, and behind each of them writes that come, are overwritten, deleted, put again.
func marked(t *testing.T) *both {
	b := begin(t)
	b.put("a", text("a1"))
	b.put("b", text("b1"))
	b.del("c")
	b.mark()
	b.put("a", text("a2"))
	b.del("b")
	b.put("c", text("c2"))
	b.put("d", value.Number(2))
	b.mark()
	b.put("b", text("b3"))
	b.del("d")
	b.put("A", text("ahead of all"))
	b.mark()
	b.mark() // right behind another one
	b.del("a")
	b.put("e", text("e5"))
	b.del("f")
	return b
}

// atMarks has what marked had at each mark.
func atMarks() [][]api.Write {
	third := list(put("A", text("ahead of all")), put("a", text("a2")), put("b", text("b3")), put("c", text("c2")), gone("d"))
	return [][]api.Write{
		list(put("a", text("a1")), put("b", text("b1")), gone("c")),
		list(put("a", text("a2")), gone("b"), put("c", text("c2")), put("d", value.Number(2))),
		third,
		third,
	}
}

func TestBackToEachMark(t *testing.T) {
	for i, want := range atMarks() {
		b, mark := marked(t), i+1
		for range 2 { // and to the same one again, with nothing between
			if e := b.back(mark); e != api.OK || !same(b.s, want...) || b.s.Marks() != mark {
				t.Errorf("Back(%d): %d, %v, %d marks", mark, e, b.s.All(), b.s.Marks())
			}
			b.hold()
		}
		for next := mark + 1; next <= 4; next++ {
			if n, e := b.mark(); n != next || e != api.OK {
				t.Errorf("the next mark behind Back(%d): %d, %d", mark, n, e)
			}
		}
		if n, e := b.mark(); n != 0 || e != api.ErrLong {
			t.Errorf("one more behind Back(%d): %d, %d", mark, n, e)
		}
		b.hold()
	}
}

func TestBackFromMarkToMark(t *testing.T) {
	b, at := marked(t), atMarks()
	for mark := 4; mark >= 1; mark-- {
		if e := b.back(mark); e != api.OK || !same(b.s, at[mark-1]...) {
			t.Errorf("Back(%d): %d, %v", mark, e, b.s.All())
		}
		b.hold()
	}
}

// Whatever is done behind a Back, the mark still has what it had.
func TestBackTwice(t *testing.T) {
	for i, want := range atMarks() {
		b, mark := marked(t), i+1
		for round := range 4 {
			b.back(mark)
			if !same(b.s, want...) {
				t.Errorf("Back(%d) again: %v", mark, b.s.All())
			}
			b.put("a", text(fmt.Sprint("round", round)))
			b.del("c")
			b.del("b")
			b.put(fmt.Sprint("new", round), text("x"))
			if round == 2 {
				b.mark()
				b.put("a", text("behind a later mark"))
			}
			b.hold()
		}
	}
}

// A mark that is set anew under a number has what there is now, not what the one that went had.
func TestMarksAnew(t *testing.T) {
	b := marked(t)
	b.back(1)
	b.put("anew", text("x"))
	want := b.s.All()
	if n, e := b.mark(); n != 2 || e != api.OK {
		t.Fatal(n, e)
	}
	b.del("anew")
	b.del("a")
	if b.back(2) != api.OK || !same(b.s, want...) {
		t.Error(b.s.All())
	}
	if b.back(1) != api.OK || !same(b.s, atMarks()[0]...) {
		t.Error(b.s.All())
	}
}

func TestBackToNoMark(t *testing.T) {
	for _, to := range []int{1, 2, 3, 4} {
		b := marked(t)
		b.back(to)
		b.put("later", text("x"))
		for _, mark := range []int{0, -1, -2, -to, math.MinInt, math.MinInt + 1, to + 1, 5, 6, 100, 1 << 32, 1<<32 + 1, 1<<8 + 1, math.MaxInt} {
			if e := b.s.Back(mark); e != api.ErrNone {
				t.Errorf("Back(%d) of %d marks: %d", mark, to, e)
			}
			b.hold()
		}
		for mark := to + 1; mark <= 4; mark++ { // these went
			if e := b.s.Back(mark); e != api.ErrNone {
				t.Errorf("Back(%d), which went: %d", mark, e)
			}
		}
		b.hold()
		if b.back(to) != api.OK || !same(b.s, atMarks()[to-1]...) {
			t.Errorf("Back(%d) behind those refused: %v", to, b.s.All())
		}
	}
}

func TestBackWithoutMarks(t *testing.T) {
	b := filled(t, []string{"a", "b"})
	for _, mark := range []int{0, 1, -1, 4} {
		if e := b.s.Back(mark); e != api.ErrNone {
			t.Errorf("Back(%d): %d", mark, e)
		}
		b.hold()
	}
}

// What is full at a mark, and what isn't, is so again behind a Back.
func TestBackOfAFullSet(t *testing.T) {
	keys := manyKeys()
	b := filled(t, keys[:15])
	b.mark()
	b.put(keys[15], text("x"))
	b.mark()
	if e := b.put(keys[16], text("x")); e != api.ErrBig {
		t.Fatal(e)
	}
	for _, key := range keys[:16] {
		b.del(key)
	}
	b.back(2)
	b.hold()
	if e := b.del(keys[17]); e != api.ErrBig {
		t.Fatal(e)
	}
	b.back(1)
	if e := b.put(keys[16], text("another one")); e != api.OK {
		t.Fatal(e)
	}
	if e := b.put(keys[15], text("one more")); e != api.ErrBig {
		t.Fatal(e)
	}
	b.hold()
}

func TestBackToNoWrites(t *testing.T) {
	b := begin(t)
	b.mark()
	b.put("a", text("x"))
	b.del("b")
	if b.back(1) != api.OK || b.s.Len() != 0 || len(b.s.All()) != 0 || b.s.Marks() != 1 {
		t.Error(b.s.All())
	}
	b.put("c", text("y"))
	b.hold()
}

// Rules 2 to 4

// What is refused turns nothing, nor what a Back leaves later.
func TestRefused(t *testing.T) {
	b := filled(t, sixteenKeys())
	for range 4 {
		b.mark()
		b.put("a", text("later"))
	}
	refuse := func() {
		for _, e := range []api.Errno{b.s.Put("", text("x")), b.s.Put("b", text(long(65))), b.s.Put(long(33), text("x")), b.s.Del(""), b.s.Del(long(33))} {
			if e != api.ErrArg {
				t.Error(e)
			}
		}
		if e, d := b.s.Put("new", text("x")), b.s.Del("new"); e != api.ErrBig || d != api.ErrBig {
			t.Error(e, d)
		}
		if n, e := b.s.Mark(); n != 0 || e != api.ErrLong {
			t.Error(n, e)
		}
		if e, f := b.s.Back(0), b.s.Back(5); e != api.ErrNone || f != api.ErrNone {
			t.Error(e, f)
		}
		b.hold()
	}
	refuse()
	refuse()
	for mark := 4; mark >= 1; mark-- {
		b.back(mark)
		b.hold()
	}
}

// Asking turns nothing.
func TestAsked(t *testing.T) {
	b := marked(t)
	for range 3 {
		b.hold()
	}
	b.back(3)
	for range 3 {
		b.hold()
	}
}

func TestWhatIsToldIsTheCallers(t *testing.T) {
	b := marked(t)
	for range 2 {
		l := b.s.All()
		for i := range l {
			l[i] = put("spoilt", text("spoilt"))
		}
		l = append(l[:1], put("more", text("more")))
		clear(l)
		b.hold()
		b.back(4)
		b.hold()
	}
	for mark := 3; mark >= 1; mark-- { // nor what stands at the marks
		l := b.s.All()
		clear(l[:cap(l)])
		b.back(mark)
		b.hold()
	}
}

// What a set keeps, and what it tells, holds on to nothing that was handed in, nor to what it tells else.
func TestTextsAreNewMemory(t *testing.T) {
	key, v := long(32), text(strings.Repeat("v", 64))
	met := map[*byte]bool{unsafe.StringData(key): true, unsafe.StringData(v.Text): true}
	s := wset.New()
	look := func(l ...api.Write) {
		t.Helper()
		for _, w := range l {
			for _, told := range []string{w.Key, w.Value.Text} {
				if told == "" {
					t.Fatal("nothing is told")
				}
				if met[unsafe.StringData(told)] {
					t.Error("memory is shared:", told)
				}
				met[unsafe.StringData(told)] = true
			}
		}
	}
	tell := func() {
		t.Helper()
		look(s.All()...)
		look(s.All()...)
		for range 2 {
			a, _ := s.Get(key)
			b, _ := s.Seek(key)
			c, _ := s.Seek("")
			d, _ := s.After("")
			look(a, b, c, d)
		}
	}
	s.Put(key, v)
	tell()
	s.Mark()
	s.Put(key, v) // over the one that is there
	tell()
	s.Back(1)
	tell()
}

// What was handed in may be used again: bytes that a key and a text were laid over are written to.
func TestWhatIsHandedInIsNotKept(t *testing.T) {
	for _, had := range [][]string{nil, {"key"}, {"del"}, {"del", "key"}} { // what is written over, too
		b := filled(t, had)
		key, v := []byte("key"), []byte("value")
		b.s.Put(unsafe.String(&key[0], 3), text(unsafe.String(&v[0], 5)))
		copy(key, "del")
		b.s.Del(unsafe.String(&key[0], 3))
		copy(key, "zzz")
		copy(v, "other")
		if !same(b.s, gone("del"), put("key", text("value"))) {
			t.Error(had, b.s.All())
		}
	}
}

func TestNil(t *testing.T) {
	var s *wset.Set
	for _, key := range []string{"a", "", long(33)} {
		for _, v := range []api.Value{{}, text("x"), text(long(65))} {
			if e := s.Put(key, v); e != api.ErrNil {
				t.Error(e)
			}
		}
		if e := s.Del(key); e != api.ErrNil {
			t.Error(e)
		}
		if w, ok := s.Get(key); ok || w != (api.Write{}) {
			t.Error(w)
		}
		if w, ok := s.After(key); ok || w != (api.Write{}) {
			t.Error(w)
		}
		if w, ok := s.Seek(key); ok || w != (api.Write{}) {
			t.Error(w)
		}
	}
	for range 6 {
		if n, e := s.Mark(); n != 0 || e != api.ErrNil {
			t.Error(n, e)
		}
	}
	for _, mark := range []int{math.MinInt, -1, 0, 1, 2, 4, 5, math.MaxInt} {
		if e := s.Back(mark); e != api.ErrNil {
			t.Error(e)
		}
	}
	if s.Marks() != 0 || s.Len() != 0 || len(s.All()) != 0 {
		t.Error(s.Marks(), s.Len(), s.All())
	}
}

// None panics, not on a set that no call made either.
func TestNoneMade(t *testing.T) {
	var s wset.Set
	s.Put("a", text("x"))
	s.Mark()
	s.Del("a")
	s.Back(1)
	s.Back(2)
	s.Get("a")
	s.After("")
	s.Seek("b")
	s.All()
}

func ExampleSet_Back() {
	s := wset.New()
	s.Put("a", api.Value{Text: "x"})
	mark, _ := s.Mark()
	s.Del("a")
	s.Put("b", api.Value{Text: "y"})
	w, _ := s.Get("a")
	fmt.Println(mark, w.Gone, s.Len())
	s.Back(mark)
	w, _ = s.Get("a")
	fmt.Println(w.Value.Text, s.Len(), s.Marks())
	// Output:
	// 1 true 2
	// x 1 1
}
