package num_test

import (
	"fmt"
	"math"
	"math/big"
	"testing"

	"cloisonne/api"
	"cloisonne/num"
)

const (
	nanBits  = 0x7FF8000000000001
	nanPlace = 0xFFE0000000000002
)

// known is a number of which the chapter, or IEEE 754, says all.
type known struct {
	bits  uint64
	class int
	place uint64
}

// ladder has the edges of each class, and some between, in order.
func ladder() []known {
	return []known{
		{0xFFF0000000000000, api.ClassMinusInf, 0},
		{0xFFEFFFFFFFFFFFFF, api.ClassMinus, 1}, // the greatest, down
		{0xFFEFFFFFFFFFFFFE, api.ClassMinus, 2},
		{0xC3E0000000000000, api.ClassMinus, 0x3C10000000000000}, // -2^63
		{0xC000000000000000, api.ClassMinus, 0x3FF0000000000000}, // -2
		{0xBFF0000000000000, api.ClassMinus, 0x4000000000000000}, // -1
		{0x8010000000000001, api.ClassMinus, 0x7FDFFFFFFFFFFFFF},
		{0x8010000000000000, api.ClassMinus, 0x7FE0000000000000},    // the least with a leading one
		{0x800FFFFFFFFFFFFF, api.ClassMinusSub, 0x7FE0000000000001}, // the greatest without
		{0x8000000000000002, api.ClassMinusSub, 0x7FEFFFFFFFFFFFFE},
		{0x8000000000000001, api.ClassMinusSub, 0x7FEFFFFFFFFFFFFF},
		{0x8000000000000000, api.ClassMinusNil, 9218868437227405312},
		{0x0000000000000000, api.ClassNil, 9218868437227405313},
		{0x0000000000000001, api.ClassSub, 0x7FF0000000000002},
		{0x0000000000000002, api.ClassSub, 0x7FF0000000000003},
		{0x000FFFFFFFFFFFFF, api.ClassSub, 0x8000000000000000},
		{0x0010000000000000, api.ClassPlus, 0x8000000000000001},
		{0x0010000000000001, api.ClassPlus, 0x8000000000000002},
		{0x3FE0000000000000, api.ClassPlus, 0xBFD0000000000001}, // 0.5
		{0x3FF0000000000000, api.ClassPlus, 0xBFE0000000000001}, // 1
		{0x3FF0000000000001, api.ClassPlus, 0xBFE0000000000002},
		{0x4000000000000000, api.ClassPlus, 0xBFF0000000000001}, // 2
		{0x43E0000000000000, api.ClassPlus, 0xC3D0000000000001}, // 2^63
		{0x7FEFFFFFFFFFFFFE, api.ClassPlus, 18437736874454810623},
		{0x7FEFFFFFFFFFFFFF, api.ClassPlus, 18437736874454810624}, // the greatest, up
		{0x7FF0000000000000, api.ClassInf, 18437736874454810625},
		{nanBits, api.ClassNaN, nanPlace},
	}
}

// nans has all the kinds of bits that are a NaN's: of either sign, quiet or not, each bit alone, all at once.
func nans() []uint64 {
	var l []uint64
	for _, sign := range []uint64{0, 1 << 63} {
		for i := range 52 {
			l = append(l, sign|0x7FF0000000000000|1<<i, sign|0x7FF8000000000000|1<<i)
		}
		l = append(l, sign|0x7FF8000000000000, sign|0x7FFFFFFFFFFFFFFF, sign|0x7FF7FFFFFFFFFFFF)
	}
	return l
}

// spread has bits from all over: the ladder's, the NaNs', and those of a sum that goes round (the same ones each time).
func spread() []uint64 {
	l := nans()
	for _, k := range ladder() {
		l = append(l, k.bits)
	}
	var x uint64
	for range 300 {
		x += 0x9E3779B97F4A7C15
		l = append(l, x, x^x>>31, x>>12, x>>12|1<<63)
	}
	return l
}

// ahead tells by the numbers themselves, not by their bits, which one stands ahead.
func ahead(a, b float64) bool {
	switch {
	case math.IsNaN(a):
		return false
	case math.IsNaN(b):
		return true
	case a == 0 && b == 0:
		return math.Signbit(a) && !math.Signbit(b)
	}
	return a < b
}

func sign(b bool) int {
	if b {
		return 1
	}
	return 0
}

// P1.1

func TestClassOfEdges(t *testing.T) {
	for _, k := range ladder() {
		if c := num.Class(math.Float64frombits(k.bits)); c != k.class {
			t.Errorf("%016x: class %d, not %d", k.bits, c, k.class)
		}
	}
	for x, want := range map[float64]int{-1e300: 2, -0.1: 2, -1e-310: 3, 1e-310: 6, 0.1: 7, 1e300: 7, 5e-324: 6, 2.2250738585072014e-308: 7, 2.225073858507201e-308: 6} {
		if c := num.Class(x); c != want {
			t.Errorf("%v: class %d, not %d", x, c, want)
		}
	}
}

func TestAllNaNsAreOne(t *testing.T) {
	one := math.Float64frombits(nanBits)
	for _, bits := range nans() {
		x := math.Float64frombits(bits)
		if c := num.Class(x); c != api.ClassNaN {
			t.Errorf("%016x: class %d", bits, c)
		}
		if b := num.Bits(x); b != nanBits {
			t.Errorf("%016x: bits %016x", bits, b)
		}
		if b := math.Float64bits(num.From(bits)); b != nanBits {
			t.Errorf("%016x: from %016x", bits, b)
		}
		if !num.Same(x, one) || !num.Same(one, x) || !num.Same(x, x) || num.Order(x, one) != 0 || num.Order(one, x) != 0 {
			t.Errorf("%016x: isn't the NaN", bits)
		}
		if num.Place(x) != nanPlace || num.Key(x) != num.Key(one) {
			t.Errorf("%016x: another place, or key", bits)
		}
		if num.Order(x, math.Inf(1)) != 1 || num.Order(math.Inf(-1), x) != -1 || num.Same(x, math.Inf(1)) {
			t.Errorf("%016x: isn't the last one", bits)
		}
	}
}

func TestBitsAndFrom(t *testing.T) {
	for _, k := range ladder() {
		if b := num.Bits(math.Float64frombits(k.bits)); b != k.bits {
			t.Errorf("%016x: bits %016x", k.bits, b)
		}
		if b := math.Float64bits(num.From(k.bits)); b != k.bits {
			t.Errorf("%016x: from %016x", k.bits, b)
		}
	}
	if num.Bits(1) != 0x3FF0000000000000 || num.Bits(-2.5) != 0xC004000000000000 || num.From(0x4059000000000000) != 100 {
		t.Error("ordinary numbers have other bits")
	}
}

func TestOrderAndSame(t *testing.T) {
	l := spread()
	for _, i := range l {
		for _, k := range l {
			a, b := math.Float64frombits(i), math.Float64frombits(k)
			want := sign(ahead(b, a)) - sign(ahead(a, b))
			if o := num.Order(a, b); o != want {
				t.Fatalf("%016x %016x: order %d, not %d", i, k, o, want)
			}
			if s := num.Same(a, b); s != (want == 0) {
				t.Fatalf("%016x %016x: same %v", i, k, s)
			}
		}
	}
}

// P1.2

func TestPlaceAndAt(t *testing.T) {
	for _, k := range ladder() {
		if p := num.Place(math.Float64frombits(k.bits)); p != k.place {
			t.Errorf("%016x: place %d, not %d", k.bits, p, k.place)
		}
		x, err := num.At(k.place)
		if err != api.OK || math.Float64bits(x) != k.bits {
			t.Errorf("%d: at %016x, %d", k.place, math.Float64bits(x), err)
		}
	}
}

func TestAtAboveTheNaN(t *testing.T) {
	for _, place := range []uint64{nanPlace + 1, nanPlace + 2, 0xFFF0000000000000, math.MaxUint64 - 1, math.MaxUint64} {
		if x, err := num.At(place); err != api.ErrArg || math.Float64bits(x) != 0 {
			t.Errorf("%d: at %v, %d", place, x, err)
		}
	}
}

func TestNext(t *testing.T) {
	for _, c := range [][2]uint64{
		{0xFFF0000000000000, 0xFFEFFFFFFFFFFFFF}, // from minus infinity
		{0xBFF0000000000000, 0xBFEFFFFFFFFFFFFF},
		{0x8010000000000000, 0x800FFFFFFFFFFFFF},
		{0x8000000000000001, 0x8000000000000000}, // to minus nought
		{0x8000000000000000, 0x0000000000000000}, // to nought
		{0x0000000000000000, 0x0000000000000001},
		{0x000FFFFFFFFFFFFF, 0x0010000000000000},
		{0x3FF0000000000000, 0x3FF0000000000001},
		{0x7FEFFFFFFFFFFFFF, 0x7FF0000000000000}, // to infinity
		{0x7FF0000000000000, nanBits},            // to the NaN
	} {
		x, err := num.Next(math.Float64frombits(c[0]))
		if err != api.OK || math.Float64bits(x) != c[1] {
			t.Errorf("%016x: next %016x, %d", c[0], math.Float64bits(x), err)
		}
	}
}

func TestNextOfTheNaN(t *testing.T) {
	for _, bits := range append(nans(), nanBits) {
		if x, err := num.Next(math.Float64frombits(bits)); err != api.ErrNone || math.Float64bits(x) != 0 {
			t.Errorf("%016x: next %v, %d", bits, x, err)
		}
	}
}

func TestKeyAndUnkey(t *testing.T) {
	for _, k := range ladder() {
		want := new(big.Int).SetUint64(k.place).FillBytes(make([]byte, 8))
		key := num.Key(math.Float64frombits(k.bits))
		if key != string(want) {
			t.Errorf("%016x: key %x, not %x", k.bits, key, want)
		}
		x, err := num.Unkey(string(want))
		if err != api.OK || math.Float64bits(x) != k.bits {
			t.Errorf("%x: unkey %016x, %d", want, math.Float64bits(x), err)
		}
	}
	if key := num.Key(1); key != "\xbf\xe0\x00\x00\x00\x00\x00\x01" {
		t.Errorf("key of 1: %x", key)
	}
	if x, err := num.Unkey("\xbf\xf0\x00\x00\x00\x00\x00\x01"); err != api.OK || x != 2 {
		t.Errorf("the key of 2: %v, %d", x, err)
	}
}

func TestUnkeyOfNoKey(t *testing.T) {
	one := num.Key(1)
	wrong := []string{
		"\xff\xe0\x00\x00\x00\x00\x00\x03", // right above the NaN's
		"\xff\xe0\x00\x00\x00\x00\x01\x02",
		"\xff\xf0\x00\x00\x00\x00\x00\x00",
		"\xff\xff\xff\xff\xff\xff\xff\xff",
		one + "\x00", "\x00" + one, one + one, num.Key(math.NaN()) + "\x00",
	}
	for i := range one {
		wrong = append(wrong, one[:i], one[i+1:])
	}
	for _, s := range wrong {
		if x, err := num.Unkey(s); err != api.ErrForm || math.Float64bits(x) != 0 {
			t.Errorf("%x: unkey %v, %d", s, x, err)
		}
	}
}

// P1.3

func TestWhole(t *testing.T) {
	for x, want := range map[float64]int64{
		0: 0, 1: 1, -1: -1, 7e15: 7e15, -3: -3,
		1<<53 - 1: 1<<53 - 1, 1 << 53: 1 << 53, 1<<53 + 2: 1<<53 + 2, -1 << 53: -1 << 53,
		1 << 62:      1 << 62,
		1<<63 - 1024: 1<<63 - 1024, // the greatest one below 2^63
		-1 << 63:     math.MinInt64,
	} {
		if n, err := num.Whole(x); err != api.OK || n != want {
			t.Errorf("%v: whole %d, %d", x, n, err)
		}
	}
	if n, err := num.Whole(math.Copysign(0, -1)); err != api.OK || n != 0 {
		t.Errorf("minus nought: whole %d, %d", n, err)
	}
}

func TestWholeOfNone(t *testing.T) {
	wrong := []float64{
		0.5, -0.5, 1.5, 0.1, 1<<52 - 0.5, -(1<<52 - 0.5), 0.9999999999999999, 5e-324, -5e-324, 0x1p-1022,
		1 << 63, -(1<<63 + 2048), 1 << 64, math.MaxFloat64, -math.MaxFloat64, math.Inf(1), math.Inf(-1),
	}
	for _, bits := range nans() {
		wrong = append(wrong, math.Float64frombits(bits))
	}
	for _, x := range wrong {
		if n, err := num.Whole(x); err != api.ErrArg || n != 0 {
			t.Errorf("%v: whole %d, %d", x, n, err)
		}
	}
}

// P1.4

func TestKeysStandAsNumbersDo(t *testing.T) {
	l := spread()
	for _, i := range l {
		for _, k := range l {
			a, b := math.Float64frombits(i), math.Float64frombits(k)
			p, q := num.Key(a), num.Key(b)
			if o := sign(p > q) - sign(p < q); o != num.Order(a, b) {
				t.Fatalf("%016x %016x: keys %x %x", i, k, p, q)
			}
			if (p == q) != num.Same(a, b) || (num.Place(a) < num.Place(b)) != (p < q) {
				t.Fatalf("%016x %016x: keys %x %x, or their places", i, k, p, q)
			}
		}
	}
}

func TestNextIsTheNextPlace(t *testing.T) {
	for _, bits := range spread() {
		x := math.Float64frombits(bits)
		next, err := num.Next(x)
		if math.IsNaN(x) {
			continue // TestNextOfTheNaN
		}
		if err != api.OK || num.Place(next) != num.Place(x)+1 || num.Order(x, next) != -1 {
			t.Fatalf("%016x: next %016x, %d", bits, math.Float64bits(next), err)
		}
	}
}

func TestNextGoesThroughTheEdges(t *testing.T) {
	for _, k := range ladder() {
		from := k.place - min(k.place, 3)
		x, err := num.At(from)
		for place := from; err == api.OK; place++ {
			if num.Place(x) != place {
				t.Fatalf("%016x: place %d, not %d", num.Bits(x), num.Place(x), place)
			}
			if place == min(k.place+3, nanPlace) {
				break
			}
			x, err = num.Next(x)
		}
		if err != api.OK {
			t.Fatalf("from %d: %d", from, err)
		}
	}
}

func TestWhatIsToldComesBack(t *testing.T) {
	for _, bits := range spread() {
		x := math.Float64frombits(bits)
		if y := num.From(num.Bits(x)); num.Bits(y) != num.Bits(x) || !num.Same(x, y) {
			t.Fatalf("%016x: by bits %016x", bits, num.Bits(y))
		}
		if y, err := num.At(num.Place(x)); err != api.OK || num.Bits(y) != num.Bits(x) {
			t.Fatalf("%016x: by place %016x, %d", bits, num.Bits(y), err)
		}
		if y, err := num.Unkey(num.Key(x)); err != api.OK || num.Bits(y) != num.Bits(x) {
			t.Fatalf("%016x: by key %016x, %d", bits, num.Bits(y), err)
		}
		place := bits
		if y, err := num.At(place); (err == api.OK) != (place <= nanPlace) || err == api.OK && num.Place(y) != place {
			t.Fatalf("place %d: %016x, %d", place, num.Bits(y), err)
		}
	}
}

func ExampleKey() {
	fmt.Printf("%x %x\n", num.Key(-1), num.Key(1))
	// Output: 4000000000000000 bfe0000000000001
}
