package wire_test

import (
	"bytes"
	"encoding/binary"
	"fmt"
	"math"
	"math/rand"
	"regexp"
	"slices"
	"strings"
	"testing"
	"unsafe"

	"cloisonne/api"
	"cloisonne/label"
	"cloisonne/num"
	"cloisonne/wire"
)

const (
	letters = "bntfl"
	nanBits = 0x7FF8000000000001
	one     = "\xbf\xe0\x00\x00\x00\x00\x00\x01" // the key of 1
	lastKey = "\xff\xe0\x00\x00\x00\x00\x00\x02" // the NaN's
	maxN    = math.MaxUint64
)

func item(n uint64) api.Item          { return api.Item{N: n} }
func text(s string) api.Item          { return api.Item{S: s} }
func tags(l ...uint64) api.Item       { return api.Item{L: l} }
func list(kids ...api.Item) api.Item  { return api.Item{Kids: kids} }
func items(l ...api.Item) []api.Item  { return l }
func many(n int, x api.Item) api.Item { return list(slices.Repeat(items(x), n)...) }
func bits(x float64) api.Item         { return item(math.Float64bits(x)) }
func times(n int, s string) string    { return strings.Repeat(s, n) }
func uvarint(n uint64) string         { return string(binary.AppendUvarint(nil, n)) }
func rising(n int) []uint64           { return tagsFrom(1, n) }
func long(n int) string               { return times(n, "x") }
func isZero(l []api.Item, n int) bool { return len(l) == 0 && n == 0 }

func eachLetter() []string { return strings.Split(letters, "") }

// allTexts has all texts of up to most bytes, each one of some.
func allTexts(most int, some string) []string {
	texts := []string{""}
	for from := 0; most > 0; most-- {
		to := len(texts)
		for _, s := range texts[from:to] {
			for i := range len(some) {
				texts = append(texts, s+some[i:i+1])
			}
		}
		from = to
	}
	return texts
}

func tagsFrom(first uint64, n int) []uint64 {
	l := make([]uint64, n)
	for i := range l {
		l[i] = first + uint64(i)
	}
	return l
}

// samples has items of a letter, the edges among them.
func samples(letter byte) []api.Item {
	switch letter {
	case 'b':
		return items(item(0), item(1), item(127), item(128), item(255))
	case 'n':
		l := items(item(0), item(1), item(300))
		for k := 1; k <= 9; k++ {
			l = append(l, item(1<<(7*k)-1), item(1<<(7*k)), item(1<<(7*k)+1))
		}
		return append(l, item(maxN-1), item(maxN))
	case 't':
		return items(text(""), text("a"), text("\x00"), text("ab\xff\x80"), text("Öl"), text(long(127)), text(long(128)), text(long(api.MaxText-1)), text(long(api.MaxText)))
	case 'f':
		return items(bits(0), bits(math.Copysign(0, -1)), bits(1), bits(-1.5), bits(5e-324), bits(-5e-324), bits(math.MaxFloat64), bits(-math.MaxFloat64), bits(math.Inf(1)), bits(math.Inf(-1)), item(nanBits))
	}
	return items(tags(), tags(1), tags(maxN), tags(3, 1<<63), tags(rising(5)...), tags(rising(api.MaxTags)...), tags(tagsFrom(maxN-5, 6)...))
}

// packed is a shape, items of it, and their bytes.
type packed struct {
	shape string
	l     []api.Item
	s     string
}

// byHand has what the chapter's words come to, byte by byte.
func byHand() []packed {
	return []packed{
		{"", nil, ""},
		{"bn", items(item(7), item(300)), "\x07\xac\x02"}, // the chapter's example
		{"b", items(item(0)), "\x00"},
		{"b", items(item(255)), "\xff"},
		{"n", items(item(0)), "\x00"},
		{"n", items(item(127)), "\x7f"},
		{"n", items(item(128)), "\x80\x01"},
		{"n", items(item(16383)), "\xff\x7f"},
		{"n", items(item(16384)), "\x80\x80\x01"},
		{"n", items(item(1 << 63)), times(9, "\x80") + "\x01"},
		{"n", items(item(maxN)), times(9, "\xff") + "\x01"},
		{"t", items(text("")), "\x00"},
		{"t", items(text("ab")), "\x02ab"},
		{"t", items(text(long(127))), "\x7f" + long(127)},
		{"t", items(text(long(128))), "\x80\x01" + long(128)},
		{"t", items(text(long(200))), "\xc8\x01" + long(200)},
		{"f", items(bits(1)), one},
		{"f", items(bits(math.Inf(-1))), times(8, "\x00")},
		{"f", items(item(nanBits)), lastKey},
		{"l", items(tags()), "\x00"},
		{"l", items(tags(3, 0x100)), "\x02\x00\x00\x00\x00\x00\x00\x00\x03\x00\x00\x00\x00\x00\x00\x01\x00"},
		{"*b", items(list()), "\x00"},
		{"*b", items(list(item(9), item(0))), "\x02\x09\x00"},
		{"*n", items(list(item(1), item(128))), "\x02\x01\x80\x01"},
		{"*t", items(list(text("a"), text(""), text("bc"))), "\x03\x01a\x00\x02bc"},
		{"*f", items(list(bits(1), item(nanBits))), "\x02" + one + lastKey},
		{"*l", items(list(tags(), tags(5), tags())), "\x03\x00\x01\x00\x00\x00\x00\x00\x00\x00\x05\x00"},
		{"*b", items(many(64, item(4))), "\x40" + times(64, "\x04")},
		{"bntfl*n", items(item(7), item(300), text("ab"), bits(1), tags(3), list(item(1), item(128))), "\x07\xac\x02\x02ab" + one + "\x01\x00\x00\x00\x00\x00\x00\x00\x03\x02\x01\x80\x01"},
		{"*b*bb*b", items(list(), list(item(1)), item(2), list(item(3), item(4))), "\x00\x01\x01\x02\x02\x03\x04"},
		{times(40, "b"), slices.Repeat(items(item(6)), 40), times(40, "\x06")},
		{times(20, "*t"), slices.Repeat(items(list(text("a"))), 20), times(20, "\x01\x01a")},
	}
}

// all has, beside those by hand, each sample alone, in a list of one, and lists of up to MaxItems; their bytes are told by Print.
func all(t *testing.T) []packed {
	l := byHand()
	add := func(shape string, items ...api.Item) {
		s, err := wire.Print(shape, items)
		if err != api.OK {
			t.Fatalf("%s: %v: %d", shape, items, err)
		}
		l = append(l, packed{shape, items, s})
	}
	for _, c := range eachLetter() {
		for _, x := range samples(c[0]) {
			add(c, x)
			add("*"+c, list(x))
			add(c+"b*"+c, x, item(1), list(x, x))
		}
		for _, n := range []int{2, api.MaxItems - 1, api.MaxItems} {
			add("*"+c, many(n, samples(c[0])[1]))
		}
		add("*"+c+"n", list(samples(c[0])...), item(300))
	}
	return l
}

// P3.1: shapes

func TestRight(t *testing.T) {
	for _, shape := range []string{"", "b", "n", "t", "f", "l", "*b", "*n", "*t", "*f", "*l", "bntfl", "*b*n*t*f*l", "bb*bb", "b*l", times(40, "b"), times(20, "*n"), times(38, "f") + "*l"} {
		if !wire.Right(shape) {
			t.Errorf("%q is one", shape)
		}
	}
	for _, shape := range wrongShapes() {
		if wire.Right(shape) {
			t.Errorf("%q is none", shape)
		}
	}
}

func wrongShapes() []string {
	return []string{
		"x", "B", "N", " ", "b ", " b", "bx", "xb", "b-n", "0", "\x00", "b\x00", "\xff", "ö", "bntfla", // other letters
		"*", "b*", "*b*", "bntfl*", times(39, "b") + "*", // a * at the end
		"**", "**b", "*b**b", "***", "b**", "* b", "*x", "*\x00b",
		times(41, "b"), times(41, "l"), times(20, "*b") + "n", times(39, "b") + "*b", times(42, "n"), times(21, "*t"), times(5000, "b"), times(40, "b") + "x", times(257, "b"),
	}
}

func TestRightOfAllShortTexts(t *testing.T) {
	shape := regexp.MustCompile(`^(\*?[bntfl])*$`)
	texts := allTexts(5, letters+"*xB")
	for c := range 256 {
		texts = append(texts, string([]byte{byte(c)}), string([]byte{'*', byte(c)}), string([]byte{'b', byte(c), 'b'}))
	}
	for _, s := range texts {
		if wire.Right(s) != shape.MatchString(s) {
			t.Fatalf("%q: %v", s, wire.Right(s))
		}
	}
}

func TestShapesOfMaxLetters(t *testing.T) {
	for n := range 50 {
		for _, c := range eachLetter() {
			shape := times(n, c)
			if wire.Right(shape) != (n <= api.MaxShape) {
				t.Errorf("%d times %s", n, c)
			}
			if shape := times(n, "*"+c); wire.Right(shape) != (2*n <= api.MaxShape) {
				t.Errorf("%d times *%s", n, c)
			}
		}
	}
}

func TestNoShapeIsErrArg(t *testing.T) {
	for _, shape := range wrongShapes() {
		for _, s := range []string{"", "\x00", "\x80", times(10, "\xff"), "\x01\x02\x03", times(5000, "\x01")} { // ErrArg ahead of all that the bytes would come to
			if l, n, err := wire.Begin(shape, s); err != api.ErrArg || !isZero(l, n) {
				t.Errorf("begin %q, %x: %v, %d, %d", shape, s, l, n, err)
			}
			if l, err := wire.Parse(shape, s); err != api.ErrArg || len(l) != 0 {
				t.Errorf("parse %q, %x: %v, %d", shape, s, l, err)
			}
		}
		for _, n := range []int{0, 1, 2, 3, len(shape) - 1, len(shape)} {
			if s, err := wire.Print(shape, make([]api.Item, max(n, 0))); err != api.ErrArg || s != "" {
				t.Errorf("print %q, %d items: %x, %d", shape, n, s, err)
			}
		}
	}
}

// P3.1: Print

func TestPrint(t *testing.T) {
	for _, p := range byHand() {
		if s, err := wire.Print(p.shape, p.l); err != api.OK || s != p.s {
			t.Errorf("%s: %x, %d, not %x", p.shape, s, err, p.s)
		}
	}
	if s, err := wire.Print("", items()); err != api.OK || s != "" {
		t.Errorf("of the empty shape: %x, %d", s, err)
	}
	if s, err := wire.Print("l*b", []api.Item{{L: []uint64{}, Kids: []api.Item{}}, {L: []uint64{}, Kids: []api.Item{}}}); err != api.OK || s != "\x00\x00" {
		t.Errorf("of empty lists: %x, %d", s, err)
	}
}

// printedBy tells by the layers below what the bytes of one item are.
func printedBy(letter byte, x api.Item) string {
	switch letter {
	case 'b':
		return string([]byte{byte(x.N)})
	case 'n':
		return uvarint(x.N)
	case 't':
		return uvarint(uint64(len(x.S))) + x.S
	case 'f':
		return num.Key(math.Float64frombits(x.N))
	}
	s, _ := label.Pack(x.L)
	return s
}

func TestPrintOfEachLetter(t *testing.T) {
	for _, c := range eachLetter() {
		alone := ""
		for _, x := range samples(c[0]) {
			want := printedBy(c[0], x)
			if s, err := wire.Print(c, items(x)); err != api.OK || s != want {
				t.Errorf("%s: %v: %x, %d, not %x", c, x, s, err, want)
			}
			for _, n := range []int{0, 1, 2, 63, 64} {
				if s, err := wire.Print("*"+c, items(many(n, x))); err != api.OK || s != uvarint(uint64(n))+times(n, want) {
					t.Errorf("*%s: %d times %v: %x, %d", c, n, x, s, err)
				}
			}
			alone += want
		}
		count := len(samples(c[0]))
		together, err := wire.Print("*"+c, items(list(samples(c[0])...)))
		if err != api.OK || together != uvarint(uint64(count))+alone {
			t.Errorf("*%s: all: %x, %d", c, together, err)
		}
	}
}

func TestPrintOfWrongItems(t *testing.T) {
	for _, c := range []struct {
		shape string
		l     []api.Item
	}{
		{"", items(item(0))}, {"", items(item(1))}, {"b", nil}, {"b", items(item(1), item(2))}, {"bb", items(item(1))}, // too few, too many
		{"*b", nil}, {"*b", items(list(), list())}, {"*bb", items(list())}, {"*b*b", items(list(item(1)), list(item(1)), list(item(1)))},
		{"*n", items(item(1), item(2))}, {"*nn", items(list(), item(1), item(2))}, {times(40, "b"), make([]api.Item, 39)}, {times(40, "b"), make([]api.Item, 41)}, {times(20, "*b"), make([]api.Item, 40)},
		{"b", items(item(256))}, {"b", items(item(257))}, {"b", items(item(1 << 32))}, {"b", items(item(1 << 63))}, {"b", items(item(maxN))}, // too great
		{"t", items(text(long(201)))}, {"t", items(text(long(256)))}, {"t", items(text(long(5000)))},
		{"f", items(item(0x7FF0000000000001))}, {"f", items(item(0x7FF8000000000000))}, {"f", items(item(0x7FF8000000000002))}, {"f", items(item(0xFFF8000000000001))}, {"f", items(item(0xFFF0000000000001))}, {"f", items(item(maxN))},
		{"l", items(tags(0))}, {"l", items(tags(2, 1))}, {"l", items(tags(1, 1))}, {"l", items(tags(rising(7)...))}, {"l", items(tags(rising(300)...))},
		{"*b", items(many(65, item(1)))}, {"*t", items(many(65, text("")))}, {"*l", items(many(65, tags()))}, {"*n", items(many(128, item(1)))}, {"*f", items(many(5000, item(1)))},
		{"bb", items(item(1), item(256))}, {"b*b", items(item(1), list(item(256)))}, {"tt", items(text(long(201)), text(""))},
	} {
		if s, err := wire.Print(c.shape, c.l); err != api.ErrArg || s != "" {
			t.Errorf("%s: %v: %x, %d", c.shape, c.l, s, err)
		}
	}
}

// odd has what an item of a letter may not be, nor a kid of a list of such.
func odd(letter byte) []api.Item {
	numbers := items(item(1), item(255), item(256), item(maxN), item(0x3FF0000000000000))
	texts := items(text("a"), text("\x00"), text(long(201)))
	labels := items(tags(1), tags(0), tags(1, 2), tags(rising(7)...))
	kids := items(list(item(0)), list(api.Item{}), list(item(1)), list(text("a")), list(tags(1)), list(list()), many(64, item(1)), many(65, item(0)))
	switch letter {
	case 'b', 'n', 'f':
		return slices.Concat(texts, labels, kids)
	case 't':
		return slices.Concat(numbers, labels, kids)
	case 'l':
		return slices.Concat(numbers, texts, kids)
	}
	return slices.Concat(numbers, texts, labels)
}

// both has what x has, and what y has beside it.
func both(x, y api.Item) api.Item {
	if y.N != 0 {
		x.N = y.N
	}
	if y.S != "" {
		x.S = y.S
	}
	if len(y.L) > 0 {
		x.L = y.L
	}
	if len(y.Kids) > 0 {
		x.Kids = y.Kids
	}
	return x
}

func TestPrintOfWhatTheLetterDoesNotAsk(t *testing.T) {
	refused := func(shape string, l ...api.Item) {
		t.Helper()
		if s, err := wire.Print(shape, l); err != api.ErrArg || s != "" {
			t.Errorf("%s: %v: %x, %d", shape, l, s, err)
		}
	}
	for _, c := range eachLetter() {
		right := samples(c[0])
		for _, y := range odd(c[0]) {
			refused(c, y)
			for _, x := range right {
				refused(c, both(x, y))
				refused("*"+c, list(x, both(x, y)))
				refused("*"+c, list(both(x, y), x))
				refused("b"+c, item(1), both(x, y))
			}
		}
		for _, y := range odd('*') {
			refused("*"+c, y)
			refused("*"+c, both(list(right[0]), y))
			refused("*"+c, both(list(), y))
		}
	}
}

// P3.1: Begin and Parse

func TestBeginAndParse(t *testing.T) {
	for _, p := range all(t) {
		if l, n, err := wire.Begin(p.shape, p.s); err != api.OK || n != len(p.s) || !wire.Same(l, p.l) {
			t.Fatalf("begin %s, %x: %v, %d, %d", p.shape, p.s, l, n, err)
		}
		if l, err := wire.Parse(p.shape, p.s); err != api.OK || !wire.Same(l, p.l) {
			t.Fatalf("parse %s, %x: %v, %d", p.shape, p.s, l, err)
		}
	}
}

func TestSomethingBehind(t *testing.T) {
	for _, p := range all(t) {
		for _, behind := range []string{"\x00", "\x01", "\x7f", "\x80", "\xff", p.s + "z", times(12, "\xff"), times(300, "\x00")} {
			l, n, err := wire.Begin(p.shape, p.s+behind)
			if err != api.OK || n != len(p.s) || !wire.Same(l, p.l) {
				t.Fatalf("begin %s, %x, behind it %x: %v, %d, %d", p.shape, p.s, behind, l, n, err)
			}
			if l, err := wire.Parse(p.shape, p.s+behind); err != api.ErrForm || len(l) != 0 {
				t.Fatalf("parse %s, %x, behind it %x: %v, %d", p.shape, p.s, behind, l, err)
			}
		}
	}
}

// refused checks that bytes come to an error, in both calls, and to nothing beside it.
func refused(t *testing.T, shape, s string, want api.Errno) {
	t.Helper()
	if l, n, err := wire.Begin(shape, s); err != want || !isZero(l, n) {
		t.Fatalf("begin %s, %x: %v, %d, %d, not %d", shape, s, l, n, err, want)
	}
	if l, err := wire.Parse(shape, s); err != want || len(l) != 0 {
		t.Fatalf("parse %s, %x: %v, %d, not %d", shape, s, l, err, want)
	}
}

func TestBytesThatEnd(t *testing.T) {
	for _, p := range all(t) {
		for i := range p.s {
			refused(t, p.shape, p.s[:i], api.ErrShort)
		}
	}
	for _, shape := range []string{"b", "n", "t", "f", "l", "*b", "*n", "*t", "*f", "*l", times(40, "b")} {
		refused(t, shape, "", api.ErrShort)
	}
}

func TestNumbersOfTooManyGroups(t *testing.T) {
	for n := 1; n <= 9; n++ { // a last group of 0 that isn't the only one
		for _, c := range []string{"\x80", "\x81", "\xff"} {
			refused(t, "n", times(n, c)+"\x00", api.ErrForm)
			refused(t, "n", times(n, c)+"\x00\x01", api.ErrForm)
		}
	}
	for c := range 128 { // more than 64 bits in the tenth group, whether or not it tells that more comes, and whatever comes
		for _, nine := range []string{times(9, "\x80"), times(9, "\xff"), "\xff" + times(8, "\x80")} {
			last, more := nine+string([]byte{byte(c)}), nine+string([]byte{byte(c + 128)})
			if c > 1 {
				refused(t, "n", last, api.ErrForm)
				refused(t, "n", last+"\x00", api.ErrForm)
				refused(t, "n", more, api.ErrForm)
			} else { // of 0 or 1 it doesn't tell by itself: there are too few
				refused(t, "n", more, api.ErrShort)
			}
			refused(t, "n", more+"\x00", api.ErrForm)
			refused(t, "n", more+"\x01", api.ErrForm)
			refused(t, "n", more+"\x80", api.ErrForm)
		}
	}
	for n := 1; n <= 9; n++ { // behind a byte that tells that more comes there are too few
		for c := 128; c < 256; c++ {
			refused(t, "n", times(n, string([]byte{byte(c)})), api.ErrShort)
			refused(t, "n", times(n-1, "\x80")+string([]byte{byte(c)}), api.ErrShort)
			refused(t, "n", times(n-1, "\xff")+string([]byte{byte(c)}), api.ErrShort)
		}
	}
	for n := 10; n < 30; n++ { // one behind the tenth
		for _, c := range []string{"\x80", "\x81", "\x82", "\xff"} {
			for last := range 256 {
				refused(t, "n", times(n, c)+string([]byte{byte(last)}), api.ErrForm)
			}
		}
	}
	refused(t, "n", times(100000, "\x80"), api.ErrForm)
	for _, shape := range []string{"t", "*b", "*n", "*t", "*f", "*l"} { // numbers that tell how many, too
		refused(t, shape, "\x80\x00", api.ErrForm)
		refused(t, shape, "\x81\x80\x00", api.ErrForm)
		refused(t, shape, times(9, "\x80")+"\x02", api.ErrForm)
		refused(t, shape, times(9, "\x80")+"\x82", api.ErrForm)
		refused(t, shape, times(10, "\xff"), api.ErrForm)
		refused(t, shape, times(11, "\x80"), api.ErrForm)
		refused(t, shape, times(10, "\x80"), api.ErrShort)
		refused(t, shape, times(9, "\xff")+"\x81", api.ErrShort)
		refused(t, shape, times(9, "\xff"), api.ErrShort)
		refused(t, shape, "\xff", api.ErrShort)
	}
	for _, shape := range []string{"bn", "tn", "*nn", "bt", "t*t", "*b*b"} { // and those that stand behind others
		refused(t, shape, "\x00"+times(10, "\xff"), api.ErrForm)
		refused(t, shape, "\x00"+times(9, "\x80")+"\x82", api.ErrForm)
		refused(t, shape, "\x00"+times(10, "\x80"), api.ErrShort)
	}
	for _, shape := range []string{"*n", "*t"} { // and in lists
		refused(t, shape, "\x02\x00"+times(10, "\xff"), api.ErrForm)
		refused(t, shape, "\x02\x00"+times(9, "\x80")+"\x82", api.ErrForm)
		refused(t, shape, "\x02\x00"+times(10, "\x80"), api.ErrShort)
	}
}

func TestTextsThatAreTooLong(t *testing.T) {
	for _, n := range []uint64{201, 202, 255, 256, 257, 328, 1 << 14, 1<<31 - 1, 1 << 31, 1<<32 + 1, 1<<63 - 1, 1 << 63, 1<<63 + 1, maxN - 1, maxN} {
		for _, behind := range []string{"", "x", long(200), long(201), long(400), times(70000, "\xff")} { // ahead of what is in it
			refused(t, "t", uvarint(n)+behind, api.ErrLong)
			refused(t, "*t", "\x02\x00"+uvarint(n)+behind, api.ErrLong)
		}
	}
	for _, n := range []int{199, 200} {
		refused(t, "t", uvarint(uint64(n))+long(n-1), api.ErrShort)
	}
}

func TestListsThatAreTooLong(t *testing.T) {
	for _, n := range []uint64{65, 66, 127, 128, 200, 256, 256 + 1, 1 << 16, 1<<32 + 1, 1<<63 - 1, 1 << 63, 1<<63 + 1, maxN} {
		for _, c := range eachLetter() {
			for _, behind := range []string{"", "\x00", "\xff", times(12, "\xff"), times(600, "\x00"), times(600, "\xff")} { // ahead of what is in it
				refused(t, "*"+c, uvarint(n)+behind, api.ErrLong)
				refused(t, "b*"+c, "\x01"+uvarint(n)+behind, api.ErrLong)
			}
		}
	}
	for _, c := range eachLetter() {
		refused(t, "*"+c, "\x40", api.ErrShort)
	}
}

func TestKeysOfNoNumber(t *testing.T) {
	for _, s := range []string{"\xff\xe0\x00\x00\x00\x00\x00\x03", "\xff\xe0\x00\x00\x00\x00\x01\x02", "\xff\xf0\x00\x00\x00\x00\x00\x00", times(8, "\xff")} {
		refused(t, "f", s, api.ErrForm)
		refused(t, "f", s+"\x00", api.ErrForm)
		refused(t, "*f", "\x02"+one+s, api.ErrForm)
		refused(t, "ff", s, api.ErrForm)
		for i := range s {
			refused(t, "f", s[:i], api.ErrShort)
		}
	}
}

func TestBytesOfNoLabel(t *testing.T) {
	tag := func(last string) string { return times(7, "\x00") + last }
	for _, s := range []string{
		"\x07", "\x08", "\x40", "\x80", "\xff", "\x07" + times(56, "\x01"), // above MaxTags: ahead of too few bytes
		"\x01" + tag("\x00"), "\x02" + tag("\x01") + tag("\x01"), "\x02" + tag("\x02") + tag("\x01"), "\x02" + tag("\x00") + tag("\x01"), "\x06" + times(48, "\x01"),
	} {
		refused(t, "l", s, api.ErrForm)
		refused(t, "l", s+"\x00", api.ErrForm)
		refused(t, "*l", "\x02\x00"+s, api.ErrForm)
		refused(t, "ll", s, api.ErrForm)
	}
	refused(t, "l", "\x01"+times(7, "\x00"), api.ErrShort)
	refused(t, "l", "\x06"+times(47, "\x01"), api.ErrShort)
}

func TestTheFirstErrorIsTold(t *testing.T) {
	for _, c := range []struct {
		shape, s string
		want     api.Errno
	}{
		{"nt", "\x80\x00\xc9\x01", api.ErrForm}, {"tn", "\xc9\x01\x80\x00", api.ErrLong}, {"nt", "\x80", api.ErrShort},
		{"tt", "\x01a\xc9\x01", api.ErrLong}, {"tt", "\x05a\xc9\x01", api.ErrShort}, {"tt", "\xc9\x01\x05", api.ErrLong},
		{"bl", "\x01\x07", api.ErrForm}, {"lb", "\x07", api.ErrForm}, {"fl", "\x01\x02\x07", api.ErrShort}, {"lf", "\x01\x02\x07", api.ErrShort},
		{"*l", "\x02\x07\xff", api.ErrForm}, {"*t", "\x03\x00\x02a", api.ErrShort}, {"*t*b", "\x01\xc9\x01\x80\x00", api.ErrLong}, {"*b*b", "\x01\x01\x41", api.ErrLong}, {"*b*b", "\x02\x41", api.ErrShort},
		{"*n", "\x03\x01\x80\x00\x80", api.ErrForm}, {"*n", "\x02" + times(10, "\x80"), api.ErrShort}, {"*n", "\x02" + times(10, "\x80") + "\x01", api.ErrForm},
		{times(39, "b") + "n", times(39, "\x80") + "\x80\x00", api.ErrForm},
		{"nb", times(10, "\xff"), api.ErrForm}, {"nb", times(10, "\x80"), api.ErrShort}, {"tb", "\xc9\x81" + times(7, "\x80") + "\x82", api.ErrForm}, {"*n", "\x02\x80" + times(10, "\xff"), api.ErrForm},
	} {
		refused(t, c.shape, c.s, c.want)
	}
}

// told is what bytes come to by the chapter's words, in another way: errors are handed back, numbers are looked for whole.
func told(shape, s string) ([]api.Item, int, api.Errno) {
	var l []api.Item
	from := s
	for ; shape != ""; shape = shape[1:] {
		count, isList := uint64(1), shape[0] == '*'
		if isList {
			n, size, err := toldCount(s, 64)
			if err != api.OK {
				return nil, 0, err
			}
			count, s, shape = n, s[size:], shape[1:]
		}
		var kids []api.Item
		for range count {
			x, size, err := toldOne(shape[0], s)
			if err != api.OK {
				return nil, 0, err
			}
			kids, s = append(kids, x), s[size:]
		}
		if isList {
			kids = items(list(kids...))
		}
		l = append(l, kids...)
	}
	return l, len(from) - len(s), api.OK
}

func toldOne(letter byte, s string) (api.Item, int, api.Errno) {
	switch {
	case letter == 'l':
		l, n, err := label.Unpack(s)
		return api.Item{L: l}, n, err
	case letter == 'n':
		n, size, err := toldNumber(s)
		return item(n), size, err
	case letter == 't':
		n, size, err := toldCount(s, 200)
		if err != api.OK {
			return api.Item{}, 0, err
		}
		if len(s)-size < int(n) {
			return api.Item{}, 0, api.ErrShort
		}
		return text(s[size : size+int(n)]), size + int(n), api.OK
	case letter == 'b' && len(s) > 0:
		return item(uint64(s[0])), 1, api.OK
	case letter == 'f' && len(s) >= 8:
		x, err := num.Unkey(s[:8])
		return bits(x), 8, err
	}
	return api.Item{}, 0, api.ErrShort
}

func toldNumber(s string) (uint64, int, api.Errno) {
	n, size := binary.Uvarint([]byte(s[:min(len(s), 11)]))
	switch {
	case size == 0 && len(s) == 10 && s[9]&127 > 1:
		return 0, 0, api.ErrForm
	case size == 0:
		return 0, 0, api.ErrShort
	case size < 0 || size > 1 && s[size-1] == 0:
		return 0, 0, api.ErrForm
	}
	return n, size, api.OK
}

func toldCount(s string, most uint64) (uint64, int, api.Errno) {
	n, size, err := toldNumber(s)
	if err == api.OK && n > most {
		return 0, 0, api.ErrLong
	}
	return n, size, err
}

// check holds what both calls answer against what is told, and what was read against its bytes (P3.3).
func check(t *testing.T, shape, s string) {
	t.Helper()
	want, count, wantErr := told(shape, s)
	l, n, err := wire.Begin(shape, s)
	if err != wantErr || n != count || !wire.Same(l, want) {
		t.Fatalf("begin %s, %x: %v, %d, %d, not %v, %d, %d", shape, s, l, n, err, want, count, wantErr)
	}
	if wantErr == api.OK && count < len(s) {
		want, wantErr = nil, api.ErrForm
	}
	m, err := wire.Parse(shape, s)
	if err != wantErr || !wire.Same(m, want) {
		t.Fatalf("parse %s, %x: %v, %d, not %v, %d", shape, s, m, err, want, wantErr)
	}
	if n > 0 {
		if back, err := wire.Print(shape, l); err != api.OK || back != s[:n] {
			t.Fatalf("%s, %x: prints as %x, %d", shape, s[:n], back, err)
		}
	}
}

func TestAllShortBytes(t *testing.T) {
	for _, s := range allTexts(3, "\x00\x01\x02\x07\x40\x41\x7f\x80\x81\xc8\xc9\xff") {
		for _, shape := range []string{"", "b", "n", "t", "f", "l", "*b", "*n", "*t", "*f", "*l", "nb", "b*n", "tt", "*bl", "*t*t"} {
			check(t, shape, s)
		}
	}
	for i := range 1 << 16 {
		for _, shape := range []string{"n", "t", "l", "*n"} {
			check(t, shape, string([]byte{byte(i >> 8), byte(i)}))
		}
	}
}

// some has items of a shape, by chance.
func some(r *rand.Rand, shape string) []api.Item {
	var l []api.Item
	for i := 0; i < len(shape); i++ {
		if shape[i] != '*' {
			l = append(l, someOne(r, shape[i]))
			continue
		}
		i++
		kids := items()
		for range r.Intn(5) * r.Intn(17) {
			kids = append(kids, someOne(r, shape[i]))
		}
		l = append(l, list(kids...))
	}
	return l
}

func someOne(r *rand.Rand, letter byte) api.Item {
	if r.Intn(3) == 0 {
		l := samples(letter)
		return l[r.Intn(len(l))]
	}
	switch letter {
	case 'b':
		return item(uint64(r.Intn(256)))
	case 'n':
		return item(r.Uint64() >> r.Intn(64))
	case 't':
		b := make([]byte, r.Intn(api.MaxText+1)>>r.Intn(8))
		r.Read(b)
		return text(string(b))
	case 'f':
		return item(num.Bits(math.Float64frombits(r.Uint64())))
	}
	l, _ := label.Of(tagsFrom(r.Uint64()>>1|1, r.Intn(api.MaxTags+1)))
	return tags(l...)
}

// someShape has a shape by chance.
func someShape(r *rand.Rand) string {
	shape := ""
	for range r.Intn(14) {
		if r.Intn(3) == 0 {
			shape += "*"
		}
		i := r.Intn(len(letters))
		shape += letters[i : i+1]
	}
	return shape
}

// spoilt has bytes of which some are others, or gone, or new.
func spoilt(r *rand.Rand, s string) string {
	b := []byte(s)
	for range 1 + r.Intn(3) {
		at := r.Intn(len(b) + 1)
		switch c := []byte{0, 1, 2, 7, 64, 65, 127, 128, 200, 201, 255, byte(r.Intn(256))}[r.Intn(12)]; {
		case at == len(b) || r.Intn(4) == 0:
			b = slices.Insert(b, at, bytes.Repeat([]byte{c}, 1+r.Intn(12))...)
		case r.Intn(4) == 0:
			b = b[:at]
		case r.Intn(4) == 0:
			b = slices.Delete(b, at, at+1)
		default:
			b[at] = c
		}
	}
	return string(b)
}

// P3.2

func TestSame(t *testing.T) {
	unlike := [][]api.Item{
		items(api.Item{}), items(api.Item{}, api.Item{}), items(item(1)), items(item(2)), items(item(maxN)), items(item(1), item(2)), items(item(2), item(1)), items(item(1), item(2), item(3)),
		items(text("1")), items(text("a")), items(text("A")), items(text("ab")), items(text("\x00")), items(text("a"), item(1)), items(item(1), text("a")), items(api.Item{N: 1, S: "a"}),
		items(tags(1)), items(tags(2)), items(tags(1, 2)), items(tags(2, 1)), items(tags(1, 1)), items(tags(0)), items(api.Item{N: 1, L: []uint64{1}}),
		items(list(api.Item{})), items(list(item(1))), items(list(item(2))), items(list(item(1), item(2))), items(list(item(1)), item(2)), items(list(text("1"))), items(list(tags(1))),
		items(list(list(), list())), items(list(list(item(1)))), items(list(list(item(2)))), items(list(list(list()))), items(list(list(text("x")), item(1))), items(list(list(tags(7)))), items(list(list(tags(8)))),
		items(item(nanBits)), items(item(nanBits + 1)), items(item(0x8000000000000000)),
		nil,
	}
	for i, a := range unlike {
		for k, b := range unlike {
			b = slices.Clone(b)
			if wire.Same(a, b) != (i == k) {
				t.Errorf("%v, %v: not %v", a, b, i == k)
			}
			if deep, other := items(item(5), list(list(a...), item(6))), items(item(5), list(list(b...), item(6))); wire.Same(deep, other) != (i == k) {
				t.Errorf("%v, %v: not %v", deep, other, i == k)
			}
		}
	}
}

func TestSameOfNilAndEmpty(t *testing.T) {
	for _, c := range [][2][]api.Item{
		{nil, items()},
		{items(api.Item{}), items(api.Item{L: []uint64{}})},
		{items(api.Item{}), items(api.Item{Kids: []api.Item{}})},
		{items(list(api.Item{L: []uint64{}})), items(list(api.Item{Kids: []api.Item{}}))},
	} {
		if !wire.Same(c[0], c[1]) || !wire.Same(c[1], c[0]) {
			t.Errorf("%v, %v", c[0], c[1])
		}
	}
	if wire.Same(nil, items(api.Item{})) || wire.Same(items(api.Item{}), nil) {
		t.Error("an item that has nothing is one")
	}
}

// nested has an item so many lists deep.
func nested(deep int, x api.Item) []api.Item {
	l := items(x)
	for range deep {
		l = items(list(l...))
	}
	return l
}

func TestSameOfMuchAndDeep(t *testing.T) {
	const deep = 1 << 16
	if !wire.Same(nested(deep, item(7)), nested(deep, item(7))) {
		t.Error("deep ones alike")
	}
	if wire.Same(nested(deep, item(7)), nested(deep, item(8))) || wire.Same(nested(deep, item(7)), nested(deep-1, item(7))) {
		t.Error("deep ones unlike")
	}
	a, b := slices.Repeat(samples('n'), 10000), slices.Repeat(samples('n'), 10000)
	if !wire.Same(a, b) {
		t.Error("long ones alike")
	}
	if b[len(b)-1].N--; wire.Same(a, b) || wire.Same(a, a[:len(a)-1]) {
		t.Error("long ones unlike")
	}
}

// P3.3

func TestWhatIsPrintedIsParsed(t *testing.T) {
	r := rand.New(rand.NewSource(3))
	for range 5000 {
		shape := someShape(r)
		l := some(r, shape)
		s, err := wire.Print(shape, l)
		if err != api.OK {
			t.Fatalf("%s, %v: %d", shape, l, err)
		}
		if m, err := wire.Parse(shape, s); err != api.OK || !wire.Same(l, m) {
			t.Fatalf("%s, %x: %v, %d, not %v", shape, s, m, err, l)
		}
		check(t, shape, s)
		check(t, shape, s+"\x00")
	}
}

func TestWhatIsParsedPrintsAsItWas(t *testing.T) {
	r := rand.New(rand.NewSource(4))
	for range 10000 {
		shape := someShape(r)
		s, _ := wire.Print(shape, some(r, shape))
		check(t, shape, spoilt(r, s))
		check(t, someShape(r), s)
	}
}

// The rules that hold everywhere

// roomy has l with spare room that is marked, so that whoever writes to it is found out.
func roomy[T any](l []T, mark T) []T {
	room := slices.Repeat([]T{mark}, len(l)+16)
	copy(room, l)
	return room[:len(l)]
}

func TestNothingIsChanged(t *testing.T) {
	fresh := func() []api.Item {
		kids := roomy(items(item(1), item(2)), item(77))
		return roomy(items(item(1), list(kids...), api.Item{L: roomy([]uint64{2, 5}, 77)}, api.Item{Kids: roomy(items(tags(3)), tags(77))}), item(77))
	}
	whole := func(l []api.Item) string {
		s := fmt.Sprint(l[:cap(l)])
		for _, x := range l {
			s += fmt.Sprint(x.L[:cap(x.L)], x.Kids[:cap(x.Kids)])
		}
		return s
	}
	l, want := fresh(), whole(fresh())
	for _, shape := range []string{"b*nl*l", "b*nl*b", "b*nll", "*bnl*l", "", "x"} {
		wire.Print(shape, l)
		wire.Same(l, l)
		wire.Same(l, l[:2])
	}
	if whole(l) != want {
		t.Errorf("%s, not %s", whole(l), want)
	}
	if s, err := wire.Print("b*nl*l", l); err != api.OK || len(s) != 1+3+17+10 {
		t.Errorf("%x, %d", s, err)
	}
}

func TestAnswersShareNothing(t *testing.T) {
	const shape = "l*ll*b*b*t"
	s, err := wire.Print(shape, items(tags(1, 2), list(tags(1, 2), tags(1, 2)), tags(1, 2), list(item(1)), list(item(1)), list(text("a"))))
	if err != api.OK {
		t.Fatal(err)
	}
	l, n, _ := wire.Begin(shape, s)
	m, _ := wire.Parse(shape, s)
	spoil := func(x api.Item) {
		for i := range x.L[:cap(x.L)] {
			x.L[:cap(x.L)][i] = 99
		}
		for i := range x.Kids[:cap(x.Kids)] {
			x.Kids[:cap(x.Kids)][i] = item(99)
		}
	}
	for i := range l { // each one is still as it was when all ahead of it are spoilt
		if !wire.Same(l[i:i+1], m[i:i+1]) {
			t.Errorf("%d: %v, not %v", i, l[i], m[i])
		}
		if len(l[i].Kids) > 0 {
			spoil(l[i].Kids[0])
			if rest := l[i].Kids[1:]; !wire.Same(rest, m[i].Kids[1:]) {
				t.Errorf("%d: %v, not %v", i, rest, m[i].Kids[1:])
			}
		}
		spoil(l[i])
	}
	from, to := uintptr(unsafe.Pointer(unsafe.StringData(s))), uintptr(len(s))
	if at := uintptr(unsafe.Pointer(unsafe.StringData(m[5].Kids[0].S))); at-from < to {
		t.Error("a text stands among the bytes that were handed in")
	}
	if again, k, err := wire.Begin(shape, s); err != api.OK || k != n || !wire.Same(again, m) {
		t.Errorf("%v, %d, %d", again, k, err)
	}
}

func TestItEndsOnEndlessItems(t *testing.T) {
	l := items(api.Item{})
	l[0].Kids = l
	for _, shape := range []string{"", "b", "t", "l", "*b", "*t", "*l"} {
		if s, err := wire.Print(shape, l); err != api.ErrArg || s != "" {
			t.Errorf("%s: %x, %d", shape, s, err)
		}
	}
}

func ExamplePrint() {
	s, err := wire.Print("bn*t", items(item(7), item(300), list(text("a"), text("bc"))))
	fmt.Printf("%x %d\n", s, err)
	// Output: 07ac02020161026263 0
}
