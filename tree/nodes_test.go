package tree

import (
	"errors"
	"fmt"
	"testing"

	"cloisonne/api"
)

// A shape is what the chapter's words say of a tree's nodes, found by going through them.
type shape struct {
	t     *Tree
	seen  map[int]bool // the places of nodes
	depth int          // of the first leaf
	keys  []string
}

// checkShape tells what of a tree's nodes isn't as the chapter's words say.
func checkShape(t *Tree) error {
	s := shape{t: t, seen: map[int]bool{}}
	if t.count > 0 {
		if err := s.look(t.root, 1); err != nil {
			return err
		}
	}
	for _, place := range t.free {
		if s.seen[place] || t.nodes[place] != nil {
			return fmt.Errorf("node %d is there and is free", place)
		}
	}
	switch {
	case len(s.seen)+len(t.free) != len(t.nodes):
		return fmt.Errorf("%d nodes and %d free ones, of %d", len(s.seen), len(t.free), len(t.nodes))
	case t.Nodes() != len(s.seen):
		return fmt.Errorf("Nodes tells %d of %d", t.Nodes(), len(s.seen))
	case t.Depth() != s.depth:
		return fmt.Errorf("Depth tells %d of %d", t.Depth(), s.depth)
	case t.Len() != len(s.keys):
		return fmt.Errorf("Len tells %d of %d", t.Len(), len(s.keys))
	case s.depth > 0 && 1<<(s.depth-1) > len(s.keys):
		return fmt.Errorf("a depth of %d with %d keys", s.depth, len(s.keys))
	}
	for i := range len(s.keys) - 1 {
		if s.keys[i] >= s.keys[i+1] {
			return fmt.Errorf("%q ahead of %q", s.keys[i], s.keys[i+1])
		}
	}
	return nil
}

// look goes through a node and what stands below it.
func (s *shape) look(place, level int) error {
	if s.seen[place] {
		return fmt.Errorf("node %d has two that it is a kid of", place)
	}
	s.seen[place] = true
	l := s.t.nodes[place]
	least := api.MinFan
	if level == 1 {
		least = 1
		if s.t.depth > 1 {
			least = 2
		}
	}
	if len(l) < least || len(l) > api.MaxFan {
		return fmt.Errorf("node %d at level %d of %d has %d items", place, level, s.t.depth, len(l))
	}
	for _, x := range l[len(l):cap(l)] {
		if x != (item{}) {
			return fmt.Errorf("node %d keeps %q in mind", place, x.key)
		}
	}
	if level == s.t.depth {
		return s.leaf(l, level)
	}
	for _, x := range l {
		if x.n < 0 || x.n >= len(s.t.nodes) || len(s.t.nodes[x.n]) == 0 {
			return errors.New("a kid that isn't there")
		}
		if s.t.nodes[x.n][0].key != x.key {
			return fmt.Errorf("%q stands for %q", x.key, s.t.nodes[x.n][0].key)
		}
		if err := s.look(x.n, level+1); err != nil {
			return err
		}
	}
	return nil
}

func (s *shape) leaf(l node, level int) error {
	if s.depth == 0 {
		s.depth = level
	}
	if s.depth != level {
		return fmt.Errorf("leaves at %d and at %d", s.depth, level)
	}
	for _, x := range l {
		s.keys = append(s.keys, x.key)
	}
	return nil
}

// orders are ways to go through n things.
func orders(n int) map[string][]int {
	l := map[string][]int{}
	step := 1 // no number that n has in it
	for _, p := range []int{7, 11, 13, 17, 61} {
		if n%p != 0 {
			step = p
		}
	}
	for i := range n {
		l["rising"] = append(l["rising"], i)
		l["falling"] = append(l["falling"], n-1-i)
		l["scattered"] = append(l["scattered"], i*step%n)
		if i%2 == 0 {
			l["from the ends"] = append(l["from the ends"], i/2)
		} else {
			l["from the ends"] = append(l["from the ends"], n-1-i/2)
		}
		l["from the middle"] = append(l["from the middle"], 0)
	}
	for i, x := range l["from the ends"] {
		l["from the middle"][n-1-i] = x
	}
	return l
}

// fillAndEmpty lays n keys in and takes them off, each in an order, and looks at the shape behind each call.
func fillAndEmpty(in, out []int) error {
	t := New()
	for i, x := range in {
		if _, was, e := t.Put(fmt.Sprintf("%04d", x), x); was || e != api.OK {
			return fmt.Errorf("Put %d: %v %v", x, was, e)
		}
		if err := checkShape(t); err != nil {
			return fmt.Errorf("behind Put %d: %w", x, err)
		}
		if t.Len() != i+1 {
			return fmt.Errorf("behind Put %d: Len %d", x, t.Len())
		}
	}
	for i, x := range out {
		if n, was := t.Del(fmt.Sprintf("%04d", x)); n != x || !was {
			return fmt.Errorf("Del %d: %d %v", x, n, was)
		}
		if err := checkShape(t); err != nil {
			return fmt.Errorf("behind Del %d: %w", x, err)
		}
		if t.Len() != len(out)-1-i {
			return fmt.Errorf("behind Del %d: Len %d", x, t.Len())
		}
	}
	if t.Depth() != 0 || t.Nodes() != 0 || len(t.nodes) != 0 {
		return fmt.Errorf("empty: depth %d, nodes %d of %d", t.Depth(), t.Nodes(), len(t.nodes))
	}
	return nil
}

// P8.3: in whichever order keys come and go, the nodes are as the words say, down to none.
func TestShapeInOrders(t *testing.T) {
	for _, n := range []int{1, 2, 3, 4, 5, 6, 7, 8, 9, 10, 16, 17, 31, 64, 65, 130} {
		all := orders(n)
		for name, in := range all {
			for last, out := range all {
				if err := fillAndEmpty(in, out); err != nil {
					t.Fatalf("%d keys, %s, then %s: %v", n, name, last, err)
				}
			}
		}
	}
}

// P8.3: all orders of few keys, in and out.
func TestShapeInAllOrders(t *testing.T) {
	few := permutations(5)
	for _, in := range few {
		for _, out := range few {
			if err := fillAndEmpty(in, out); err != nil {
				t.Fatalf("%v, then %v: %v", in, out, err)
			}
		}
	}
	for _, in := range permutations(7) {
		for name, out := range orders(7) {
			if err := fillAndEmpty(in, out); err != nil {
				t.Fatalf("%v, then %s: %v", in, name, err)
			}
			if err := fillAndEmpty(out, in); err != nil {
				t.Fatalf("%s, then %v: %v", name, in, err)
			}
		}
	}
}

func permutations(n int) [][]int {
	if n == 0 {
		return [][]int{nil}
	}
	var l [][]int
	for _, p := range permutations(n - 1) {
		for at := range n {
			q := append([]int(nil), p[:at]...)
			l = append(l, append(append(q, n-1), p[at:]...))
		}
	}
	return l
}

// P8.3: from a full tree of some size each key alone is taken off, and each new one alone laid in.
func TestShapeBehindEachCall(t *testing.T) {
	for n := 1; n <= 70; n++ {
		for name, in := range orders(n) {
			for at := range n {
				x := New()
				for _, i := range in {
					x.Put(fmt.Sprintf("%04d", i), i)
				}
				if _, was, e := x.Put(fmt.Sprintf("%04d+", at), 9); was || e != api.OK {
					t.Fatal(n, name, at, was, e)
				}
				if err := checkShape(x); err != nil {
					t.Fatal(n, name, at, "with one more:", err)
				}
				if n, was := x.Del(fmt.Sprintf("%04d", at)); n != at || !was {
					t.Fatal(n, name, at, was)
				}
				if err := checkShape(x); err != nil {
					t.Fatal(n, name, at, "with one less:", err)
				}
			}
		}
	}
}

// A node that is parted keeps its front with no spare room: what is laid in there doesn't fall onto the other one.
func TestFrontHasNoSpareRoom(t *testing.T) {
	for _, in := range permutations(api.MaxFan + 1) {
		x := New()
		for _, i := range in {
			x.Put(string(rune('b'+2*i)), i)
		}
		root := x.nodes[x.root]
		if front := x.nodes[root[0].n]; cap(front) != len(front) {
			t.Fatal(in, "room for", cap(front), "behind", len(front))
		}
		x.Put("a", -1) // into the front
		for i := range in {
			if n, ok := x.Get(string(rune('b' + 2*i))); n != i || !ok {
				t.Fatal(in, i, n, ok)
			}
		}
	}
}

// A node that is taken off keeps no keys in mind, though its list may be a piece of another one's.
func TestReleasedKeepsNothing(t *testing.T) {
	x := New()
	for _, k := range []string{"a", "b", "c", "d", "e"} {
		x.Put(k, 1)
	}
	before := append([]node(nil), x.nodes...)
	for _, k := range []string{"e", "d", "c"} {
		x.Del(k)
	}
	if len(x.free) == 0 {
		t.Fatal("none is taken off")
	}
	for _, place := range x.free {
		for _, k := range before[place] {
			if k != (item{}) {
				t.Errorf("%d keeps %q", place, k.key)
			}
		}
	}
}

// P8.3: the places of nodes that were taken off are taken again.
func TestPlacesAreTakenAgain(t *testing.T) {
	x := New()
	for i := range 200 {
		x.Put(fmt.Sprintf("%04d", i), i)
	}
	most := len(x.nodes)
	for i := 200; i < 2000; i++ {
		x.Put(fmt.Sprintf("%04d", i), i)
		x.Del(fmt.Sprintf("%04d", i-200))
		if err := checkShape(x); err != nil {
			t.Fatal(i, err)
		}
	}
	if len(x.nodes) > most+10 {
		t.Error(len(x.nodes), "places, of", most)
	}
}
