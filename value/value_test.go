package value_test

import (
	"encoding/binary"
	"fmt"
	"math"
	"strings"
	"testing"
	"unsafe"

	"cloisonne/api"
	"cloisonne/value"
)

const (
	nanBits  = 0x7FF8000000000001
	nilBits  = 0x8000000000000000                 // minus nought's
	one      = "\xbf\xe0\x00\x00\x00\x00\x00\x01" // the key of 1
	nanKey   = "\xff\xe0\x00\x00\x00\x00\x00\x02"
	nanPlace = 0xFFE0000000000002
)

func text(s string) api.Value      { return api.Value{Text: s} }
func number(bits uint64) api.Value { return api.Value{Number: true, Bits: bits} }
func long(n int) string            { return strings.Repeat("x", n) }

func sign(b bool) int {
	if b {
		return 1
	}
	return 0
}

// packed is a value and its bytes.
type packed struct {
	v api.Value
	s string
}

// texts has bytes in their order, those of the greatest length among them.
func texts() []string {
	return []string{
		"", "\x00", "\x00\x00", strings.Repeat("\x00", api.MaxValue), "\x00a", "\x01", "\x01" + one, "a", "a\x00", "aa", "ab", "b",
		long(api.MaxValue - 1), long(api.MaxValue), long(api.MaxValue-1) + "y", "z", "\x7f", "\x80", "Öl", "\xff", "\xff\x00", strings.Repeat("\xff", api.MaxValue),
	}
}

// numbers has the bits of numbers in their order, the ends of each class among them, and their keys.
func numbers() []packed {
	return []packed{
		{number(0xFFF0000000000000), "\x00\x00\x00\x00\x00\x00\x00\x00"}, // minus infinity
		{number(0xFFEFFFFFFFFFFFFF), "\x00\x00\x00\x00\x00\x00\x00\x01"},
		{number(0xC000000000000000), "\x3f\xf0\x00\x00\x00\x00\x00\x00"}, // -2
		{number(0xBFF0000000000000), "\x40\x00\x00\x00\x00\x00\x00\x00"}, // -1
		{number(0x8010000000000000), "\x7f\xe0\x00\x00\x00\x00\x00\x00"},
		{number(0x800FFFFFFFFFFFFF), "\x7f\xe0\x00\x00\x00\x00\x00\x01"}, // subnormal ones
		{number(0x8000000000000001), "\x7f\xef\xff\xff\xff\xff\xff\xff"},
		{number(nilBits), "\x7f\xf0\x00\x00\x00\x00\x00\x00"},
		{number(0), "\x7f\xf0\x00\x00\x00\x00\x00\x01"},
		{number(0x0000000000000001), "\x7f\xf0\x00\x00\x00\x00\x00\x02"}, // subnormal ones
		{number(0x000FFFFFFFFFFFFF), "\x80\x00\x00\x00\x00\x00\x00\x00"},
		{number(0x0010000000000000), "\x80\x00\x00\x00\x00\x00\x00\x01"},
		{number(0x3FF0000000000000), one},
		{number(0x4000000000000000), "\xbf\xf0\x00\x00\x00\x00\x00\x01"}, // 2
		{number(0x7FEFFFFFFFFFFFFF), "\xff\xe0\x00\x00\x00\x00\x00\x00"},
		{number(0x7FF0000000000000), "\xff\xe0\x00\x00\x00\x00\x00\x01"}, // infinity
		{number(nanBits), nanKey},
	}
}

// ladder has values of both kinds in their order, and their bytes.
func ladder() []packed {
	var l []packed
	for _, s := range texts() {
		l = append(l, packed{text(s), "\x00" + s})
	}
	for _, p := range numbers() {
		l = append(l, packed{p.v, "\x01" + p.s})
	}
	return l
}

// otherNaNs has bits of NaNs that num.Bits tells of none: of either sign, quiet or not, each bit alone, all at once.
func otherNaNs() []uint64 {
	var l []uint64
	for _, top := range []uint64{0x7FF0000000000000, 0x7FF8000000000000, 0xFFF0000000000000, 0xFFF8000000000000} {
		for i := range 51 {
			l = append(l, top|1<<i)
		}
		l = append(l, top|1<<51, top|(1<<52-1))
	}
	var others []uint64
	for _, bits := range l {
		if bits != nanBits {
			others = append(others, bits)
		}
	}
	return others
}

// wrong has values that may not be.
func wrong() []api.Value {
	l := []api.Value{
		{Bits: 1}, {Bits: nilBits}, {Bits: nanBits}, {Bits: 0x3FF0000000000000}, {Bits: math.MaxUint64}, {Text: "a", Bits: 1}, {Text: "a", Bits: 0x3FF0000000000000}, // no Number with Bits
		{Number: true, Text: "x"}, {Number: true, Text: "\x00"}, {Number: true, Text: "x", Bits: 0x3FF0000000000000}, {Number: true, Text: long(api.MaxValue), Bits: nanBits}, {Number: true, Text: long(api.MaxValue + 1)}, // a Number with a Text
		{Number: true, Text: "x", Bits: 0x7FF0000000000001},
		text(long(api.MaxValue + 1)), text(long(api.MaxValue + 2)), text(long(255)), text(long(256)), text(long(257)), text(long(5000)), text(long(256 + api.MaxValue)), // too long
		{Text: long(api.MaxValue + 1), Bits: 1},
	}
	for _, bits := range otherNaNs() {
		l = append(l, number(bits))
	}
	return l
}

// spread has bits from all over (the same ones each time), those of NaNs among them.
func spread() []uint64 {
	l := append(otherNaNs(), nanBits)
	for _, p := range numbers() {
		l = append(l, p.v.Bits)
	}
	var x uint64
	for range 300 {
		x += 0x9E3779B97F4A7C15
		l = append(l, x, x^x>>31, x>>12, x>>12|1<<63)
	}
	return l
}

// P4.1

func TestRight(t *testing.T) {
	for _, p := range ladder() {
		if !value.Right(p.v) {
			t.Errorf("%v may be", p.v)
		}
	}
	for _, v := range wrong() {
		if value.Right(v) {
			t.Errorf("%v may not be", v)
		}
	}
}

func TestRightOfAllLengths(t *testing.T) {
	for n := range 600 {
		if value.Right(text(long(n))) != (n <= api.MaxValue) {
			t.Errorf("%d bytes", n)
		}
		if value.Right(api.Value{Number: true, Text: long(n)}) != (n == 0) {
			t.Errorf("nought with %d bytes", n)
		}
	}
}

func TestRightOfAllKindsOfBits(t *testing.T) {
	for _, bits := range spread() {
		if value.Right(number(bits)) != (!math.IsNaN(math.Float64frombits(bits)) || bits == nanBits) {
			t.Errorf("%016x as a number", bits)
		}
		if value.Right(api.Value{Bits: bits}) != (bits == 0) || value.Right(api.Value{Text: "a", Bits: bits}) != (bits == 0) {
			t.Errorf("%016x beside bytes", bits)
		}
		if value.Right(api.Value{Number: true, Text: "a", Bits: bits}) {
			t.Errorf("%016x as a number with bytes", bits)
		}
	}
}

func TestBytes(t *testing.T) {
	for _, s := range texts() {
		if v, err := value.Bytes(s); err != api.OK || v != text(s) || !value.Right(v) {
			t.Errorf("%x: %v, %d", s, v, err)
		}
	}
	for n := range 600 {
		s, want, wantErr := long(n), text(long(n)), api.OK
		if n > api.MaxValue {
			want, wantErr = api.Value{}, api.ErrLong
		}
		if v, err := value.Bytes(s); err != wantErr || v != want {
			t.Errorf("%d bytes: %v, %d", n, v, err)
		}
	}
	if v, err := value.Bytes(strings.Repeat("\x00", api.MaxValue+1)); err != api.ErrLong || v != (api.Value{}) {
		t.Errorf("too many bytes of 0: %v, %d", v, err)
	}
}

func TestNumberAndFloat(t *testing.T) {
	for _, bits := range spread() {
		want := bits
		if math.IsNaN(math.Float64frombits(bits)) {
			want = nanBits
		}
		v := value.Number(math.Float64frombits(bits))
		if v != number(want) || !value.Right(v) {
			t.Errorf("%016x: %v", bits, v)
		}
		if x, err := value.Float(v); err != api.OK || math.Float64bits(x) != want {
			t.Errorf("%016x: float %016x, %d", bits, math.Float64bits(x), err)
		}
	}
	for x, want := range map[float64]uint64{0: 0, 1: 0x3FF0000000000000, -2.5: 0xC004000000000000, 100: 0x4059000000000000, 5e-324: 1, math.Inf(1): 0x7FF0000000000000, math.Inf(-1): 0xFFF0000000000000} {
		if v := value.Number(x); v != number(want) {
			t.Errorf("%v: %v", x, v)
		}
		if y, err := value.Float(number(want)); err != api.OK || y != x {
			t.Errorf("%016x: float %v, %d", want, y, err)
		}
	}
	if v := value.Number(math.Copysign(0, -1)); v != number(nilBits) {
		t.Errorf("minus nought: %v", v)
	}
}

func TestFloatOfNone(t *testing.T) {
	l := wrong()
	for _, s := range texts() {
		l = append(l, text(s))
	}
	for _, v := range l {
		if x, err := value.Float(v); err != api.ErrArg || math.Float64bits(x) != 0 {
			t.Errorf("%v: float %v, %d", v, x, err)
		}
	}
}

// P4.2

func TestPackAndUnpack(t *testing.T) {
	for _, p := range ladder() {
		if s, err := value.Pack(p.v); err != api.OK || s != p.s {
			t.Errorf("%v: pack %x, %d, not %x", p.v, s, err, p.s)
		}
		if v, err := value.Unpack(p.s); err != api.OK || v != p.v {
			t.Errorf("%x: unpack %v, %d, not %v", p.s, v, err, p.v)
		}
	}
}

func TestPackOfWrongValues(t *testing.T) {
	for _, v := range wrong() {
		if s, err := value.Pack(v); err != api.ErrArg || s != "" {
			t.Errorf("%v: pack %x, %d", v, s, err)
		}
	}
}

func TestUnpackOfNoBytes(t *testing.T) {
	if v, err := value.Unpack(""); err != api.ErrShort || v != (api.Value{}) {
		t.Errorf("unpack %v, %d", v, err)
	}
}

// refused checks that bytes are no value's.
func refused(t *testing.T, s string) {
	t.Helper()
	if v, err := value.Unpack(s); err != api.ErrForm || v != (api.Value{}) {
		t.Errorf("%x: unpack %v, %d", s, v, err)
	}
}

func TestUnpackOfOtherFirstBytes(t *testing.T) {
	for c := 2; c < 256; c++ {
		first := string([]byte{byte(c)})
		for _, rest := range []string{"", "a", "\x00", "\x01", one, nanKey, "\x00ab", "\x01" + one, long(api.MaxValue), long(api.MaxValue + 1)} {
			refused(t, first+rest)
		}
	}
}

func TestUnpackOfNoKey(t *testing.T) {
	for n := range 300 { // each length but a key's
		if n != len(one) {
			refused(t, "\x01"+strings.Repeat("\x00", n))
			refused(t, "\x01"+strings.Repeat("\xff", n))
			refused(t, "\x01"+long(n))
		}
	}
	for _, p := range numbers() {
		for i := range p.s {
			refused(t, "\x01"+p.s[:i])
			refused(t, "\x01"+p.s[i+1:])
		}
		refused(t, "\x01"+p.s+"\x00")
		refused(t, "\x01\x01"+p.s)
	}
	for _, key := range []string{ // no number's: right above the NaN's, and further
		"\xff\xe0\x00\x00\x00\x00\x00\x03", "\xff\xe0\x00\x00\x00\x00\x01\x02", "\xff\xe1\x00\x00\x00\x00\x00\x02",
		"\xff\xf0\x00\x00\x00\x00\x00\x00", "\xff\xff\xff\xff\xff\xff\xff\xfe", "\xff\xff\xff\xff\xff\xff\xff\xff",
	} {
		refused(t, "\x01"+key)
	}
}

func TestUnpackOfTooLongATextsBytes(t *testing.T) {
	for n := range 600 {
		s := "\x00" + long(n)
		if n > api.MaxValue {
			refused(t, s)
			continue
		}
		if v, err := value.Unpack(s); err != api.OK || v != text(long(n)) {
			t.Errorf("%d bytes: unpack %v, %d", n, v, err)
		}
	}
}

func TestWeight(t *testing.T) {
	for _, p := range ladder() {
		if w := value.Weight(p.v); w != len(p.s) {
			t.Errorf("%v: weight %d, not %d", p.v, w, len(p.s))
		}
	}
	for v, want := range map[api.Value]int{{}: 1, text("a"): 2, text("abc"): 4, text(long(api.MaxValue)): 65, number(0): 9, number(0x3FF0000000000000): 9, number(nanBits): 9} {
		if w := value.Weight(v); w != want {
			t.Errorf("%v: weight %d, not %d", v, w, want)
		}
	}
	for _, v := range wrong() {
		if w := value.Weight(v); w != 0 {
			t.Errorf("%v: weight %d", v, w)
		}
	}
}

func TestCompare(t *testing.T) {
	l := ladder()
	for i, a := range l {
		for k, b := range l {
			want := sign(i > k) - sign(i < k)
			if c := value.Compare(a.v, b.v); c != want {
				t.Errorf("%v %v: %d, not %d", a.v, b.v, c, want)
			}
		}
	}
}

func TestCompareOfWrongValues(t *testing.T) {
	for _, v := range wrong() {
		for _, p := range ladder() {
			if c, d := value.Compare(v, p.v), value.Compare(p.v, v); c != 0 || d != 0 {
				t.Errorf("%v %v: %d, %d", v, p.v, c, d)
			}
		}
		for _, w := range wrong() {
			if c := value.Compare(v, w); c != 0 {
				t.Errorf("%v %v: %d", v, w, c)
			}
		}
	}
}

// P4.3

// all has values of both kinds from all over.
func all() []api.Value {
	var l []api.Value
	for _, p := range ladder() {
		l = append(l, p.v)
	}
	for _, bits := range spread() {
		v := value.Number(math.Float64frombits(bits))
		word := string(binary.BigEndian.AppendUint64(nil, bits))
		l = append(l, v, text(word), text(word[:bits%8]))
	}
	return l
}

func TestWhatIsPackedIsUnpacked(t *testing.T) {
	for _, v := range all() {
		s, err := value.Pack(v)
		if err != api.OK || len(s) != value.Weight(v) {
			t.Fatalf("%v: pack %x, %d, weight %d", v, s, err, value.Weight(v))
		}
		if back, err := value.Unpack(s); err != api.OK || back != v {
			t.Fatalf("%v: unpack %v, %d", v, back, err)
		}
	}
}

func TestWhatIsUnpackedIsRight(t *testing.T) {
	for _, bits := range spread() {
		word := string(binary.BigEndian.AppendUint64(nil, bits))
		for _, s := range []string{word, "\x00" + word, "\x01" + word} {
			v, err := value.Unpack(s)
			if s[0] == 1 && len(s) == 9 && (err == api.OK) != (bits <= nanPlace) {
				t.Fatalf("%x: unpack %v, %d", s, v, err)
			}
			if err != api.OK {
				continue
			}
			if back, err := value.Pack(v); !value.Right(v) || err != api.OK || back != s {
				t.Fatalf("%x: unpack %v, its bytes %x, %d", s, v, back, err)
			}
		}
	}
}

func TestBytesStandAsValuesDo(t *testing.T) {
	l := all()
	for i, a := range l {
		p, _ := value.Pack(a)
		for _, b := range l[i%7:] {
			q, _ := value.Pack(b)
			c := value.Compare(a, b)
			if c != strings.Compare(p, q) || c != -value.Compare(b, a) || (c == 0) != (a == b) {
				t.Fatalf("%v %v: %d, bytes %x %x", a, b, c, p, q)
			}
		}
	}
}

// What is answered is new memory (rule 3).

func shares(a, b string) bool {
	from, to := uintptr(unsafe.Pointer(unsafe.StringData(a))), uintptr(unsafe.Pointer(unsafe.StringData(b)))
	return a != "" && b != "" && from < to+uintptr(len(b)) && to < from+uintptr(len(a))
}

func TestAnswersAreNewMemory(t *testing.T) {
	s := "\x00" + long(api.MaxValue)
	if v, _ := value.Bytes(s[1:]); shares(v.Text, s) {
		t.Error("bytes share what was handed in")
	}
	v, _ := value.Unpack(s)
	if shares(v.Text, s) {
		t.Error("what is unpacked shares what was handed in")
	}
	if back, _ := value.Pack(v); shares(v.Text, back) {
		t.Error("what is packed shares what was handed in")
	}
}

func ExampleWeight() {
	fmt.Println(value.Weight(value.Number(1)), value.Weight(api.Value{}))
	// Output: 9 1
}

func ExamplePack() {
	letters, _ := value.Pack(api.Value{Text: "ab"})
	number, _ := value.Pack(value.Number(1))
	fmt.Printf("%x %x\n", letters, number)
	// Output: 006162 01bfe0000000000001
}
