package tree_test

import (
	"bytes"
	"fmt"
	"math"
	"math/rand"
	"slices"
	"strings"
	"testing"
	"unsafe"

	"cloisonne/api"
	"cloisonne/tree"
)

// A model is keys with numbers, as the chapter's words tell of them.
type model map[string]int

func (m model) keys() []string {
	l := []string{}
	for k := range m {
		l = append(l, k)
	}
	slices.SortFunc(l, func(a, b string) int { return bytes.Compare([]byte(a), []byte(b)) })
	return l
}

// found is what Seek, After and Before answer.
type found struct {
	key string
	n   int
	ok  bool
}

func foundOf(key string, n int, ok bool) found { return found{key, n, ok} }

// first tells the first key of a list that is as asked for.
func (m model) first(l []string, is func(string) bool) found {
	for _, k := range l {
		if is(k) {
			return found{k, m[k], true}
		}
	}
	return found{}
}

// agree tells where a tree and its model differ about some keys.
func agree(x *tree.Tree, m model, asked []string) error {
	l := m.keys()
	back := slices.Clone(l)
	slices.Reverse(back)
	if x.Len() != len(l) {
		return fmt.Errorf("Len %d, not %d", x.Len(), len(l))
	}
	for _, k := range asked {
		n, ok := x.Get(k)
		if had, is := m[k]; n != had || ok != is {
			return fmt.Errorf("Get %q: %d %v", k, n, ok)
		}
		if got, want := foundOf(x.Seek(k)), m.first(l, func(s string) bool { return s >= k }); got != want {
			return fmt.Errorf("Seek %q: %v, not %v", k, got, want)
		}
		if got, want := foundOf(x.After(k)), m.first(l, func(s string) bool { return s > k }); got != want {
			return fmt.Errorf("After %q: %v, not %v", k, got, want)
		}
		if got, want := foundOf(x.Before(k)), m.first(back, func(s string) bool { return s < k }); got != want {
			return fmt.Errorf("Before %q: %v, not %v", k, got, want)
		}
		from, _ := slices.BinarySearch(l, k)
		if got := x.Keys(k, len(l)+1); !slices.Equal(got, l[from:]) {
			return fmt.Errorf("Keys %q: %q, not %q", k, got, l[from:])
		}
	}
	return nil
}

// put lays a key in both, and tells where the answers differ.
func put(x *tree.Tree, m model, key string, n int) error {
	had, is := m[key]
	m[key] = n
	if got, was, e := x.Put(key, n); got != had || was != is || e != api.OK {
		return fmt.Errorf("Put %q: %d %v %d, not %d %v", key, got, was, e, had, is)
	}
	return nil
}

// del takes a key off both, and tells where the answers differ.
func del(x *tree.Tree, m model, key string) error {
	had, is := m[key]
	delete(m, key)
	if got, was := x.Del(key); got != had || was != is {
		return fmt.Errorf("Del %q: %d %v, not %d %v", key, got, was, had, is)
	}
	return nil
}

// odd are keys of all kinds: the empty one, beginnings of others, and any bytes.
func odd() []string {
	return []string{"", "\x00", "\x00\x00", "\x00a", "a", "a\x00", "a\x00\x00", "aa", "aaa", "ab", "abc", "b", "z", "\x7f", "\x80", "\xc3", "\xc3\xa4", "\xff", "\xff\x00", "\xff\xff", strings.Repeat("a", 32), strings.Repeat("a", 5000), strings.Repeat("a", 4999) + "b", strings.Repeat("\xff", 300)}
}

// P8.1 and P8.2: an empty tree.
func TestNone(t *testing.T) {
	x := tree.New()
	if err := agree(x, model{}, odd()); err != nil {
		t.Error(err)
	}
	for _, k := range odd() {
		if n, was := x.Del(k); n != 0 || was {
			t.Errorf("Del %q: %d %v", k, n, was)
		}
	}
	if x.Depth() != 0 || x.Nodes() != 0 || x.Len() != 0 {
		t.Error(x.Depth(), x.Nodes(), x.Len())
	}
	if y := tree.New(); x == y {
		t.Error("two trees are one")
	}
}

// No tree at all.
func TestNil(t *testing.T) {
	var x *tree.Tree
	for _, k := range odd() {
		if n, was, e := x.Put(k, 3); n != 0 || was || e != api.ErrNil {
			t.Error("Put", n, was, e)
		}
		if n, ok := x.Get(k); n != 0 || ok {
			t.Error("Get", n, ok)
		}
		if n, was := x.Del(k); n != 0 || was {
			t.Error("Del", n, was)
		}
		for i, got := range []found{foundOf(x.Seek(k)), foundOf(x.After(k)), foundOf(x.Before(k))} {
			if got != (found{}) {
				t.Error(i, got)
			}
		}
		if l := x.Keys(k, 5); len(l) != 0 {
			t.Error("Keys", l)
		}
	}
	if x.Len() != 0 || x.Depth() != 0 || x.Nodes() != 0 {
		t.Error(x.Len(), x.Depth(), x.Nodes())
	}
}

// P8.1: what a key had, and whether it was there.
func TestPutGetDel(t *testing.T) {
	x, m := tree.New(), model{}
	numbers := []int{0, 1, -1, math.MaxInt, math.MinInt}
	for round, n := range numbers {
		for i, k := range odd() {
			if err := put(x, m, k, n); err != nil {
				t.Fatal(round, err)
			}
			if err := put(x, m, k, n+i); err != nil {
				t.Fatal(round, err)
			}
			if err := agree(x, m, odd()); err != nil {
				t.Fatal(round, err)
			}
		}
	}
	for i, k := range odd() {
		for range 2 {
			if err := del(x, m, k); err != nil {
				t.Fatal(err)
			}
			if err := agree(x, m, odd()); err != nil {
				t.Fatal(i, err)
			}
		}
	}
	if x.Len() != 0 || x.Nodes() != 0 {
		t.Error(x.Len(), x.Nodes())
	}
}

// P8.1: trees know nothing of each other.
func TestTwoTrees(t *testing.T) {
	x, y := tree.New(), tree.New()
	for i := range 50 {
		x.Put(fmt.Sprint(i), i)
		y.Put(fmt.Sprint(i+25), -i)
	}
	for i := range 25 {
		if _, ok := y.Get(fmt.Sprint(i)); ok {
			t.Error(i)
		}
		if n, ok := x.Get(fmt.Sprint(i + 25)); n != i+25 || !ok {
			t.Error(i+25, n, ok)
		}
	}
}

// full tells a tree of MaxTree keys, laid in by an order.
func full(t *testing.T, place func(int) int) *tree.Tree {
	x := tree.New()
	for i := range api.MaxTree {
		if n, was, e := x.Put(big(place(i)), place(i)); n != 0 || was || e != api.OK {
			t.Fatal(i, n, was, e)
		}
	}
	if x.Len() != api.MaxTree {
		t.Fatal(x.Len())
	}
	return x
}

func big(i int) string { return fmt.Sprintf("%06d", i) }

// P8.1: MaxTree keys, and one more.
func TestMaxTree(t *testing.T) {
	for name, place := range map[string]func(int) int{
		"rising":    func(i int) int { return i },
		"falling":   func(i int) int { return api.MaxTree - 1 - i },
		"scattered": func(i int) int { return i * 61803 % api.MaxTree },
	} {
		x := full(t, place)
		depth, nodes := x.Depth(), x.Nodes()
		for _, k := range []string{"", "0", "000000+", "050000+", "099999+", "1", "\xff"} {
			if n, was, e := x.Put(k, 7); n != 0 || was || e != api.ErrLong {
				t.Errorf("%s: Put %q: %d %v %d", name, k, n, was, e)
			}
			if n, ok := x.Get(k); n != 0 || ok {
				t.Errorf("%s: Get %q: %d %v", name, k, n, ok)
			}
		}
		if x.Len() != api.MaxTree || x.Depth() != depth || x.Nodes() != nodes {
			t.Error(name, "what failed has turned something")
		}
		for _, i := range []int{0, 1, 50000, api.MaxTree - 1} {
			if n, was, e := x.Put(big(i), -i-1); n != i || !was || e != api.OK {
				t.Error(name, i, n, was, e)
			}
			if n, ok := x.Get(big(i)); n != -i-1 || !ok {
				t.Error(name, i, n, ok)
			}
		}
		checkAll(t, name, x.Keys("", math.MaxInt))
		checkSteps(t, name, x)
		if n, was := x.Del(big(777)); n != 777 || !was {
			t.Error(name, n, was)
		}
		if n, was, e := x.Put("000777+", 5); n != 0 || was || e != api.OK {
			t.Error(name, n, was, e)
		}
		if n, was, e := x.Put(big(777), 5); n != 0 || was || e != api.ErrLong {
			t.Error(name, n, was, e)
		}
	}
}

func checkAll(t *testing.T, name string, l []string) {
	if len(l) != api.MaxTree {
		t.Fatal(name, len(l))
	}
	for i, k := range l {
		if k != big(i) {
			t.Fatal(name, i, k)
		}
	}
}

// checkSteps goes through a full tree one by one: no step takes a way through all of it.
func checkSteps(t *testing.T, name string, x *tree.Tree) {
	up, down := "", "\xff"
	for i := range api.MaxTree {
		var one, other bool
		up, _, one = x.After(up)
		down, _, other = x.Before(down)
		if !one || !other || up != big(i) || down != big(api.MaxTree-1-i) {
			t.Fatal(name, i, up, down)
		}
		if l := x.Keys(up, 1); len(l) != 1 || l[0] != up {
			t.Fatal(name, i, up, l)
		}
	}
	if _, _, ok := x.After(up); ok {
		t.Fatal(name, "After the last one")
	}
	if _, _, ok := x.Before(down); ok {
		t.Fatal(name, "Before the first one")
	}
}

// P8.1 and P8.3: from MaxTree keys down to none.
func TestMaxTreeToNone(t *testing.T) {
	x := full(t, func(i int) int { return i * 7919 % api.MaxTree })
	for i := range api.MaxTree {
		at := i * 61803 % api.MaxTree
		if n, was := x.Del(big(at)); n != at || !was {
			t.Fatal(i, n, was)
		}
		if n := x.Len(); n != api.MaxTree-1-i {
			t.Fatal(i, n)
		}
		if i%997 == 0 {
			bounds(t, x)
		}
	}
	if x.Depth() != 0 || x.Nodes() != 0 || len(x.Keys("", 10)) != 0 {
		t.Error(x.Depth(), x.Nodes())
	}
	for i := range 10 {
		if n, was, e := x.Put(big(i), i); n != 0 || was || e != api.OK {
			t.Error(i, n, was, e)
		}
	}
}

// bounds looks whether a tree's depth and its nodes can be as its keys are.
func bounds(t *testing.T, x *tree.Tree) {
	t.Helper()
	n, d, nodes := x.Len(), x.Depth(), x.Nodes()
	least, most, wide, thin := 0, 0, 1, 1 // of nodes level by level, if they are as full, or as empty, as may be
	for level := range d {
		least, most = least+thin, most+wide
		wide *= api.MaxFan
		if thin *= api.MinFan; level == d-1 && d == 1 {
			thin = 1
		}
	}
	switch {
	case n == 0 && (d != 0 || nodes != 0):
		t.Error("none:", d, nodes)
	case n > 0 && (d < 1 || n < thin || n > wide):
		t.Error(n, "keys, a depth of", d)
	case n > 0 && (nodes < least || nodes > most):
		t.Error(n, "keys,", nodes, "nodes, a depth of", d)
	case d > 0 && 1<<(d-1) > n:
		t.Error(n, "keys, a depth of", d)
	}
}

// P8.2: each set of a few keys, asked for each key there is, between two, below and above all, and how many one likes.
func TestEachSet(t *testing.T) {
	asked := []string{""}
	var keys []string
	for c := byte('b'); c <= 'j'; c++ {
		keys = append(keys, string(c))
		asked = append(asked, string(c)+"\x00", string(c), string(c-1)+"\xff")
	}
	asked = append(asked, "\xff")
	for set := range 1 << len(keys) {
		x, m := tree.New(), model{}
		for i, k := range keys {
			if set>>i&1 == 1 {
				if err := put(x, m, k, i); err != nil {
					t.Fatal(set, err)
				}
			}
		}
		if err := agree(x, m, asked); err != nil {
			t.Fatal(set, err)
		}
		bounds(t, x)
		if set%7 == 0 {
			checkMost(t, x, m.keys(), asked)
		}
	}
}

func checkMost(t *testing.T, x *tree.Tree, l []string, asked []string) {
	t.Helper()
	for _, k := range asked {
		at, _ := slices.BinarySearch(l, k)
		for _, most := range []int{math.MinInt, -1, 0, 1, 2, 3, 4, 5, 6, 8, 9, 10, 11, math.MaxInt} {
			want := l[at:]
			if most < len(want) {
				want = want[:max(most, 0)]
			}
			if got := x.Keys(k, most); !slices.Equal(got, want) {
				t.Errorf("Keys(%q, %d) of %q: %q", k, most, l, got)
			}
		}
	}
}

// P8.2: many keys, in leaves far from each other.
func TestManyKeys(t *testing.T) {
	for _, n := range []int{1, 4, 5, 16, 17, 64, 65, 300} {
		x, m := tree.New(), model{}
		asked := []string{"", "\xff"}
		for i := range n {
			k := big(i * 61 % n * 2)
			if err := put(x, m, k, i); err != nil {
				t.Fatal(err)
			}
			asked = append(asked, k, k+"\x00", big(i*2+1))
		}
		if err := agree(x, m, asked); err != nil {
			t.Fatal(n, err)
		}
		l := m.keys()
		for _, most := range []int{-1, 0, 1, n - 1, n, n + 1} {
			if got := x.Keys("", most); len(got) != min(max(most, 0), n) || !slices.Equal(got, l[:len(got)]) {
				t.Error(n, most, len(got))
			}
		}
	}
}

// P8.1 to P8.3: long walks beside a model, growing and shrinking by turns.
func TestWalks(t *testing.T) {
	for seed := range int64(30) {
		r := rand.New(rand.NewSource(seed))
		x, m := tree.New(), model{}
		span := 1 + r.Intn(10)<<r.Intn(7)
		for i := range 1500 {
			k := key(r.Intn(span))
			var err error
			if grow := 30 + i/300%2*40; r.Intn(100) < grow {
				err = put(x, m, k, r.Intn(100)-50)
			} else {
				err = del(x, m, k)
			}
			if err == nil && i%5 == 0 {
				err = agree(x, m, []string{"", k, k + "\x00", key(r.Intn(span)), "\xff"})
			}
			if err != nil {
				t.Fatal(seed, i, err)
			}
			bounds(t, x)
		}
	}
}

// key tells one of many keys, some of which are the beginnings of others.
func key(i int) string {
	s := ""
	for ; i > 0; i /= 3 {
		s += string(rune('a' + i%3))
	}
	return s
}

// P8.3: the depth and the nodes of few keys are as the words leave no choice.
func TestDepthAndNodes(t *testing.T) {
	want := [][2]int{{0, 0}, {1, 1}, {1, 1}, {1, 1}, {1, 1}, {2, 3}, {2, 3}}
	for name, at := range map[string][]int{"rising": {0, 1, 2, 3, 4, 5}, "falling": {5, 4, 3, 2, 1, 0}, "any": {2, 5, 0, 3, 1, 4}} {
		x := tree.New()
		for i, w := range want {
			if x.Depth() != w[0] || x.Nodes() != w[1] {
				t.Error(name, i, "keys:", x.Depth(), x.Nodes())
			}
			if i < len(at) {
				x.Put(big(at[i]), i)
				x.Put(big(at[i]), i+1)
				x.Del("nobody")
			}
		}
		for i := range at {
			x.Del(big(at[i]))
			if left := len(at) - 1 - i; left == 5 && (x.Depth() != 2 || x.Nodes() != 3) || left < 4 && left > 0 && x.Depth() == 1 && x.Nodes() != 1 {
				t.Error(name, left, "keys:", x.Depth(), x.Nodes())
			}
			bounds(t, x)
		}
	}
}

// P8.4: by After each key that is there all the while is met once, rising.
func TestAfterWalk(t *testing.T) {
	for seed := range int64(60) {
		r := rand.New(rand.NewSource(seed))
		x := tree.New()
		span := 5 + r.Intn(150)
		stays := map[string]bool{}
		for range span {
			k := big(r.Intn(span))
			x.Put(k, 1)
			stays[k] = r.Intn(2) == 0
		}
		begin := big(r.Intn(span))
		if seed%3 == 0 {
			begin = ""
		}
		met := map[string]int{}
		last := begin
		for steps := 0; ; steps++ {
			k, _, ok := x.After(last)
			if !ok {
				break
			}
			if k <= last || steps > span {
				t.Fatalf("%d: %q behind %q", seed, k, last)
			}
			met[k]++
			last = k
			for range r.Intn(8) { // others come and go
				other := big(r.Intn(span))
				if _, was := x.Get(other); was && !stays[other] {
					x.Del(other)
				} else if !was {
					x.Put(other, 2)
				}
			}
		}
		for k, stay := range stays {
			if stay && k > begin && met[k] != 1 {
				t.Errorf("%d: %q is met %d times", seed, k, met[k])
			}
		}
	}
}

// Rules 2 and 3: answers share nothing with the tree or with each other, and what is handed in isn't kept.
func TestNewMemory(t *testing.T) {
	x := tree.New()
	handed := map[*byte]bool{}
	for i := range 40 {
		k := big(i)
		handed[unsafe.StringData(k)] = true
		x.Put(k, i)
		k = strings.Clone(k)
		handed[unsafe.StringData(k)] = true
		x.Put(k, i)
	}
	for range 2 {
		var l []string
		for i := range 39 {
			a, _, _ := x.Seek(big(i))
			b, _, _ := x.After(big(i))
			c, _, _ := x.Before(big(i + 1))
			l = append(l, a, b, c)
		}
		for _, s := range append(l, x.Keys("", 50)...) {
			if at := unsafe.StringData(s); handed[at] {
				t.Fatalf("%q is shared", s)
			} else {
				handed[at] = true
			}
		}
	}
	l := x.Keys("", 50)
	clear(l)
	l = append(l[:3], "zz")
	if more := x.Keys("", 50); len(more) != 40 || more[0] != big(0) || more[3] != big(3) {
		t.Error(more)
	}
}

// Rule 3: a key that is handed in isn't kept: its bytes may have another use behind the call.
func TestNotKept(t *testing.T) {
	x := tree.New()
	b := make([]byte, 6)
	handed := unsafe.String(&b[0], len(b))
	for i := range 50 {
		copy(b, big(i))
		x.Put(handed, i)
		if i%2 == 0 {
			x.Put(handed, i) // it is there already
		}
	}
	copy(b, "??????")
	for i := range 50 {
		if n, ok := x.Get(big(i)); n != i || !ok {
			t.Error(i, n, ok)
		}
	}
	if l := x.Keys("", 60); len(l) != 50 || l[49] != big(49) {
		t.Error(l)
	}
}

// Reading turns nothing.
func TestReadingTurnsNothing(t *testing.T) {
	x, m := tree.New(), model{}
	for i := range 100 {
		put(x, m, big(i*37%100), i)
	}
	depth, nodes := x.Depth(), x.Nodes()
	for range 3 {
		if err := agree(x, m, append(m.keys(), odd()...)); err != nil {
			t.Fatal(err)
		}
		x.Del("nobody")
		if x.Depth() != depth || x.Nodes() != nodes {
			t.Fatal(x.Depth(), x.Nodes())
		}
	}
}

func Example() {
	x := tree.New()
	for i, k := range []string{"e", "b", "a", "d", "c"} {
		x.Put(k, i)
	}
	fmt.Println(x.Depth(), x.Nodes())
	fmt.Println(x.Put("b", 9))
	fmt.Println(x.Seek("bb"))
	fmt.Println(x.Keys("b", 3))
	// Output:
	// 2 3
	// 1 true 0
	// c 4 true
	// [b c d]
}
