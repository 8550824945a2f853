package room

import (
	"iter"

	"cloisonne/api"
	"cloisonne/chain"
	"cloisonne/tree"
)

// shelf has of each key a chain. More keys may have one than a tree takes, so there are as many trees as it needs: each key stands in one of them, with the place of its chain in the list.
type shelf struct {
	trees  []*tree.Tree
	chains [][]api.Version
	free   []int // the places of chains that were taken off
	all    sums  // of all chains
}

// sums tell how many bytes live at the ends of chains, how many keys do, and how many versions there are.
type sums struct {
	live     int
	keys     int
	versions int
}

// step is how one comes from a key to another one of a tree.
type step func(t *tree.Tree, key string) (string, int, bool)

// sumsOf tells what a key's chain comes to.
func sumsOf(key string, l []api.Version) sums {
	last, ok := chain.Last(l)
	if !ok || last.Gone {
		return sums{versions: len(l)}
	}
	return sums{live: weight(key, last.Value), keys: 1, versions: len(l)}
}

// plus tells both together.
func (a sums) plus(b sums) sums {
	return sums{a.live + b.live, a.keys + b.keys, a.versions + b.versions}
}

// less tells the rest without those that are among them.
func (a sums) less(b sums) sums {
	return sums{a.live - b.live, a.keys - b.keys, a.versions - b.versions}
}

// chain tells a key's chain; one without versions, if the key isn't there.
func (s *shelf) chain(key string) []api.Version {
	t, place := s.find(key)
	if t == nil {
		return nil
	}
	return s.chains[place]
}

// from goes through the keys that aren't below one, rising, with their chains; others may come and go meanwhile.
func (s *shelf) from(key string) iter.Seq2[string, []api.Version] {
	return s.walk((*tree.Tree).Seek, key)
}

// above goes likewise through the keys above one.
func (s *shelf) above(key string) iter.Seq2[string, []api.Version] {
	return s.walk((*tree.Tree).After, key)
}

// add puts one more version behind a key's chain. It may stand there: the room looked at its value, and its Seq is a new commit's, or the only one.
func (s *shelf) add(key string, v api.Version) {
	l, _ := chain.Add(s.chain(key), v)
	s.set(key, l)
}

// set gives a key a chain; one without versions takes the key off.
func (s *shelf) set(key string, l []api.Version) {
	s.all = s.all.less(sumsOf(key, s.chain(key))).plus(sumsOf(key, l))
	t, place := s.find(key)
	switch {
	case t == nil:
		s.lay(key, s.take(l))
	case len(l) == 0:
		t.Del(key)
		s.release(place)
	default:
		s.chains[place] = l
	}
}

// find tells the tree that has a key, and the place of its chain; nil, if none has it.
func (s *shelf) find(key string) (*tree.Tree, int) {
	for _, t := range s.trees {
		if place, there := t.Get(key); there {
			return t, place
		}
	}
	return nil, 0
}

// walk goes through keys by After, but for the first one, which a step of its own comes to.
func (s *shelf) walk(begin step, key string) iter.Seq2[string, []api.Version] {
	return func(yield func(string, []api.Version) bool) {
		next, place, there := s.least(begin, key)
		for there && yield(next, s.chains[place]) {
			next, place, there = s.least((*tree.Tree).After, next)
		}
	}
}

// least tells the least key that a step from one comes to in any tree, the place of its chain, and whether there is any.
func (s *shelf) least(to step, key string) (string, int, bool) {
	least, place, there := "", 0, false
	for _, t := range s.trees {
		if k, at, ok := to(t, key); ok && (!there || k < least) {
			least, place, there = k, at, true
		}
	}
	return least, place, there
}

// lay puts a key that is in none yet into a tree that has room for it, a new one if all are full.
func (s *shelf) lay(key string, place int) {
	for _, t := range s.trees {
		if _, _, err := t.Put(key, place); err == api.OK {
			return
		}
	}
	t := tree.New()
	t.Put(key, place)
	s.trees = append(s.trees, t)
}

// take gives a chain a place in the list, one that is free if there is any.
func (s *shelf) take(l []api.Version) int {
	last := len(s.free) - 1
	if last < 0 {
		s.chains = append(s.chains, l)
		return len(s.chains) - 1
	}
	place := s.free[last]
	s.free = s.free[:last]
	s.chains[place] = l
	return place
}

// release takes a chain off.
func (s *shelf) release(place int) {
	s.chains[place] = nil
	s.free = append(s.free, place)
}
