package chart

import (
	"cmp"
	"slices"

	"probate/api"
	"probate/gram"
)

// kept keeps what is new.
type kept[T comparable] map[T]bool

// put tells whether something is new, and keeps it.
func (k kept[T]) put(one T) bool {
	if k[one] {
		return false
	}
	k[one] = true
	return true
}

// ended is a nonterminal of which something comes that begins at a place, and ends at the one whose set is filled.
type ended struct{ non, from int }

// filling is how far a word's sets are filled: of each place what stands in its set, and what ended there. What stands there is held as a list, too, which can be gone through while it grows.
type filling struct {
	g    api.Grammar
	w    []int
	has  []kept[api.Item]
	ends []kept[ended]
	sets [][]api.Item
}

// begun has Start's productions alone.
func begun(g api.Grammar, w []int) *filling {
	f := &filling{g: g, w: w, sets: make([][]api.Item, len(w)+1)}
	for range f.sets {
		f.has = append(f.has, kept[api.Item]{})
		f.ends = append(f.ends, kept[ended]{})
	}
	f.begin(0, g.Start)
	return f
}

// fill puts in all that follows of what stands in a place's set. Only then is it put in order: nothing comes into it from a later place.
func (f *filling) fill(at int) {
	for i := 0; i < len(f.sets[at]); i++ {
		f.follow(at, f.sets[at][i])
	}
	slices.SortFunc(f.sets[at], inOrder)
}

// follow puts in what follows of an item. What waits for a nonterminal of which nothing comes may have come into the set behind that: so whichever of both is followed last looks for the other one.
func (f *filling) follow(at int, it api.Item) {
	s, is := next(f.g, it)
	switch {
	case !is:
		f.end(at, ended{f.g.Prods[it.Prod].Left, it.From})
	case s.Non:
		f.begin(at, s.N)
		if f.ends[at][ended{s.N, at}] {
			f.put(at, behind(it))
		}
	case at < len(f.w) && f.w[at] == s.N:
		f.put(at+1, behind(it))
	}
}

// begin puts in a nonterminal's productions.
func (f *filling) begin(at, non int) {
	for _, prod := range gram.Of(f.g, non) {
		f.put(at, api.Item{Prod: prod, From: at})
	}
}

// end goes on with all that waits for a nonterminal since the place at which it began: once, however many of its productions end here.
func (f *filling) end(at int, e ended) {
	if !f.ends[at].put(e) {
		return
	}
	for _, it := range f.sets[e.from] {
		if s, is := next(f.g, it); is && s.Non && s.N == e.non {
			f.put(at, behind(it))
		}
	}
}

// put puts an item into a place's set, if it is new there.
func (f *filling) put(at int, it api.Item) {
	if f.has[at].put(it) {
		f.sets[at] = append(f.sets[at], it)
	}
}

// behind is the item of which one symbol more is behind.
func behind(it api.Item) api.Item {
	it.Dot++
	return it
}

// inOrder is the order in a set.
func inOrder(a, b api.Item) int {
	return cmp.Or(cmp.Compare(a.Prod, b.Prod), cmp.Compare(a.Dot, b.Dot), cmp.Compare(a.From, b.From))
}
