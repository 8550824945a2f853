package wire

import (
	"strings"

	"cloisonne/api"
	"cloisonne/label"
	"cloisonne/num"
)

// fault is an error that comes up while bytes are read. It has a type of its own, so that nothing else is taken for one.
type fault api.Errno

// reader reads bytes from the front on; what goes wrong comes up as a fault.
type reader struct {
	rest string
}

// read tells the items whose bytes s begins with, and how many these are, or what went wrong first.
func read(kinds []kind, s string) (l []api.Item, n int, err api.Errno) {
	defer func() { err = errorOf(recover()) }()
	r := reader{rest: s}
	items := make([]api.Item, len(kinds)) // l stays nothing, if a fault comes up
	for i, k := range kinds {
		items[i] = r.item(k)
	}
	return items, len(s) - len(r.rest), api.OK
}

// errorOf tells the error of a fault that was caught; OK, if nothing was. Anything else goes on.
func errorOf(caught any) api.Errno {
	switch x := caught.(type) {
	case nil:
		return api.OK
	case fault:
		return api.Errno(x)
	default:
		panic(x)
	}
}

// check lets an error of a layer below come up.
func check(err api.Errno) {
	if err != api.OK {
		panic(fault(err))
	}
}

// item reads what a shape asks of one item.
func (r *reader) item(k kind) api.Item {
	if !k.list {
		return r.one(k.letter)
	}
	kids := make([]api.Item, r.size(api.MaxItems))
	for i := range kids {
		kids[i] = r.one(k.letter)
	}
	return api.Item{Kids: kids}
}

// one reads what a letter asks for.
func (r *reader) one(letter byte) api.Item {
	switch letter {
	case 'b':
		return api.Item{N: uint64(r.next())}
	case 'n':
		return api.Item{N: r.number()}
	case 't':
		return api.Item{S: r.text()}
	case 'f':
		return api.Item{N: r.float()}
	}
	return api.Item{L: r.tags()}
}

// take reads as many bytes.
func (r *reader) take(count int) string {
	if len(r.rest) < count {
		panic(fault(api.ErrShort))
	}
	s := r.rest[:count]
	r.rest = r.rest[count:]
	return s
}

// next reads one byte.
func (r *reader) next() byte {
	return r.take(1)[0]
}

// number reads groups up to the last one. What is wrong with a group is met at its own byte, ahead of what is missing behind it.
func (r *reader) number() uint64 {
	var n uint64
	for group := range mostGroups {
		c := r.next()
		bits, shift := uint64(c&^moreMark), groupBits*group
		if bits<<shift>>shift != bits || group > 0 && c == 0 { // beyond 64 bits, or a last group of 0
			panic(fault(api.ErrForm))
		}
		n |= bits << shift
		if c < moreMark {
			return n
		}
	}
	r.next() // a group too many has to be there to be one; else there are too few bytes
	panic(fault(api.ErrForm))
}

// size reads how many there are of what comes; ErrLong, if more than most.
func (r *reader) size(most int) int {
	n := r.number()
	if n > uint64(most) {
		panic(fault(api.ErrLong))
	}
	return int(n)
}

// text reads a text into memory of its own, so that it doesn't hold on to all the bytes that it stood among.
func (r *reader) text() string {
	return strings.Clone(r.take(r.size(api.MaxText)))
}

// float reads a key, and tells the bits of its number.
func (r *reader) float() uint64 {
	x, err := num.Unkey(r.take(keyBytes))
	check(err)
	return num.Bits(x)
}

// tags reads a label.
func (r *reader) tags() []uint64 {
	l, count, err := label.Unpack(r.rest)
	check(err)
	r.take(count)
	return l
}
