package closed

import (
	"iter"

	"probate/api"
	"probate/gram"
	"probate/tree"
)

// standing is an item, and the place in whose set it stands.
type standing struct {
	at int
	it api.Item
}

// waited is a nonterminal that is next at a place.
type waited struct{ non, at int }

// ended is a nonterminal of which a whole item stands at a place, From another one.
type ended struct{ non, from, to int }

// kept is what stands in sets, each item once: so an item that waits is let on once from each place at which its nonterminal ends, however many items say so, and however often.
type kept struct {
	g     api.Grammar
	w     []int // the tokens behind which there is a set
	has   map[standing]bool
	waits map[waited][]api.Item
	ends  map[ended]bool
}

// keep keeps what stands in sets, if there are as many as there may be, and each item may stand where it does.
func keep(g api.Grammar, w []int, sets [][]api.Item) (*kept, bool) {
	if !gram.Right(g) || len(sets) == 0 || len(sets)-1 > len(w) {
		return nil, false
	}
	k := &kept{g, w[:len(sets)-1], map[standing]bool{}, map[waited][]api.Item{}, map[ended]bool{}}
	for at, set := range sets {
		for _, it := range set {
			if !may(g, at, it) {
				return nil, false
			}
			k.put(standing{at, it})
		}
	}
	return k, true
}

// may tells whether an item may stand in a place's set.
func may(g api.Grammar, at int, it api.Item) bool {
	if it.Prod < 0 || it.Prod >= len(g.Prods) || it.From < 0 || it.From > at {
		return false
	}
	return it.Dot >= 0 && it.Dot <= len(g.Prods[it.Prod].Right)
}

func (k *kept) put(s standing) {
	if k.has[s] {
		return
	}
	k.has[s] = true
	next, is := k.next(s.it)
	switch {
	case !is:
		k.ends[ended{k.g.Prods[s.it.Prod].Left, s.it.From, s.at}] = true
	case next.Non:
		here := waited{next.N, s.at}
		k.waits[here] = append(k.waits[here], s.it)
	}
}

// next tells an item's next symbol, if it isn't whole.
func (k *kept) next(it api.Item) (api.Sym, bool) {
	right := k.g.Prods[it.Prod].Right
	if it.Dot == len(right) {
		return api.Sym{}, false
	}
	return right[it.Dot], true
}

// closed tells whether all is there that must be, by each of the four sentences of what a word's sets are.
func (k *kept) closed() bool {
	for _, sentence := range []iter.Seq[standing]{k.started, k.begun, k.read, k.letOn} {
		for s := range sentence {
			if !k.has[s] {
				return false
			}
		}
	}
	return true
}

// started goes through Start's productions.
func (k *kept) started(yield func(standing) bool) {
	k.begin(waited{k.g.Start, 0}, yield)
}

// begun goes through the productions of all nonterminals that are next.
func (k *kept) begun(yield func(standing) bool) {
	for here := range k.waits {
		if !k.begin(here, yield) {
			return
		}
	}
}

// begin goes through a nonterminal's productions, and tells whether to go on.
func (k *kept) begin(here waited, yield func(standing) bool) bool {
	for _, prod := range gram.Of(k.g, here.non) {
		if !yield(standing{here.at, api.Item{Prod: prod, From: here.at}}) {
			return false
		}
	}
	return true
}

// read goes through what stands behind the word's tokens.
func (k *kept) read(yield func(standing) bool) {
	for s := range k.has {
		next, is := k.next(s.it)
		if !is || next.Non || s.at == len(k.w) || k.w[s.at] != next.N {
			continue
		}
		if !yield(standing{s.at + 1, behind(s.it)}) {
			return
		}
	}
}

// letOn goes through what stands behind nonterminals that ended.
func (k *kept) letOn(yield func(standing) bool) {
	for e := range k.ends {
		for _, it := range k.waits[waited{e.non, e.from}] {
			if !yield(standing{e.to, behind(it)}) {
				return
			}
		}
	}
}

// behind is the item of which one symbol more is behind.
func behind(it api.Item) api.Item {
	it.Dot++
	return it
}

// otherwise tells whether by what stands there a node may be another one: of another production, or with a symbol that begins elsewhere. A terminal can't: it begins one place ahead of its end.
func (k *kept) otherwise(n tree.Node) bool {
	if k.another(n) {
		return true
	}
	for dot, s := range k.g.Prods[n.Prod].Right {
		if s.Non && k.elsewhere(n, dot, s.N) {
			return true
		}
	}
	return false
}

// another tells whether another production of a node's nonterminal is whole between its places.
func (k *kept) another(n tree.Node) bool {
	from, to := n.At[0], n.At[len(n.At)-1]
	for _, prod := range gram.Of(k.g, k.g.Prods[n.Prod].Left) {
		whole := api.Item{Prod: prod, Dot: len(k.g.Prods[prod].Right), From: from}
		if prod != n.Prod && k.has[standing{to, whole}] {
			return true
		}
	}
	return false
}

// elsewhere tells whether a symbol of a node, a nonterminal, may begin at another place, and end where it does.
func (k *kept) elsewhere(n tree.Node, dot, non int) bool {
	from, end := n.At[0], n.At[dot+1]
	ahead := api.Item{Prod: n.Prod, Dot: dot, From: from}
	for at := from; at <= end; at++ {
		if at != n.At[dot] && k.has[standing{at, ahead}] && k.ends[ended{non, at, end}] {
			return true
		}
	}
	return false
}
