package merge

import (
	"cloisonne/api"
	"cloisonne/wset"
)

// find tells what the first key behind one has, and whether there is any.
type find func(key string) (api.Write, bool)

// keys is how keys that stand in order are found; nothing is kept between two calls, so that keys may come and go meanwhile.
type keys struct {
	seek  find // the first that isn't below one
	after find // the first that is above one
}

// ofSet finds the keys that have a write; a nil set has none.
func ofSet(s *wset.Set) keys {
	return keys{seek: s.Seek, after: s.After}
}

// ofRoom finds the keys that live in a source's room at its number.
func ofRoom(x Source) keys {
	return keys{seek: asOf(x.Seq, x.Room.Seek), after: asOf(x.Seq, x.Room.After)}
}

// asOf finds as a room's call does, at a number.
func asOf(seq int, call func(key string, seq int) (string, api.Value, bool)) find {
	return func(key string) (api.Write, bool) {
		next, v, ok := call(key, seq)
		return api.Write{Key: next, Value: v}, ok
	}
}

// over finds the keys of both; one that both have is as the upper ones tell.
func over(upper, lower keys) keys {
	return keys{seek: first(upper.seek, lower.seek), after: first(upper.after, lower.after)}
}

// first finds the lesser one of what two find, the upper one's if they are alike.
func first(upper, lower find) find {
	return func(key string) (api.Write, bool) {
		a, ok := upper(key)
		b, there := lower(key)
		if !there || ok && a.Key <= b.Key {
			return a, ok
		}
		return b, there
	}
}

// living finds the keys that aren't Gone.
func living(k keys) keys {
	return keys{seek: past(k.seek, k.after), after: past(k.after, k.after)}
}

// past finds as one does, and goes on by the other one as long as that is Gone.
func past(begin, after find) find {
	return func(key string) (api.Write, bool) {
		w, ok := begin(key)
		for ok && w.Gone {
			w, ok = after(w.Key)
		}
		return w, ok
	}
}
