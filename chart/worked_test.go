package chart_test

import (
	"maps"
	"slices"

	"probate/api"
	"probate/chart"
)

// What follows works out from the productions alone what a word's sets are, in two ways, and what is told by them.

// least are a word's sets by the chapter's four sentences, which are gone through again and again, till nothing is new.
func least(g api.Grammar, w []int) [][]api.Item {
	sets := make([]map[api.Item]bool, len(w)+1)
	for at := range sets {
		sets[at] = map[api.Item]bool{}
	}
	for many := -1; many < size(sets); {
		many = size(sets)
		for prod, p := range g.Prods {
			if p.Left == g.Start {
				sets[0][item(prod, 0, 0)] = true
			}
		}
		for at := range sets {
			for _, it := range slices.Collect(maps.Keys(sets[at])) {
				follow(g, w, sets, at, it)
			}
		}
	}
	var l [][]api.Item
	for _, set := range sets {
		l = append(l, inOrder(set))
	}
	return l
}

// size is how many items there are.
func size(sets []map[api.Item]bool) int {
	many := 0
	for _, set := range sets {
		many += len(set)
	}
	return many
}

// follow puts in what the three sentences ask for that speak of an item.
func follow(g api.Grammar, w []int, sets []map[api.Item]bool, at int, it api.Item) {
	p := g.Prods[it.Prod]
	if it.Dot == len(p.Right) {
		for _, waits := range slices.Collect(maps.Keys(sets[it.From])) {
			right := g.Prods[waits.Prod].Right
			if waits.Dot < len(right) && right[waits.Dot] == (api.Sym{Non: true, N: p.Left}) {
				sets[at][item(waits.Prod, waits.Dot+1, waits.From)] = true
			}
		}
		return
	}
	s := p.Right[it.Dot]
	if !s.Non {
		if at < len(w) && w[at] == s.N {
			sets[at+1][item(it.Prod, it.Dot+1, it.From)] = true
		}
		return
	}
	for prod, of := range g.Prods {
		if of.Left == s.N {
			sets[at][item(prod, 0, at)] = true
		}
	}
}

// inOrder are a set's items, by one number of each, in which its parts stand in three places of their own.
func inOrder(set map[api.Item]bool) []api.Item {
	var numbers []int
	for it := range set {
		numbers = append(numbers, it.Prod*10000+it.Dot*100+it.From)
	}
	slices.Sort(numbers)
	var l []api.Item
	for _, n := range numbers {
		l = append(l, item(n/10000, n/100%100, n%100))
	}
	return l
}

// part is what is asked: whether the tokens between two places come of the symbols of a production that are ahead of one.
type part struct{ prod, dot, from, to int }

// parts answers what is asked of one word. It ends, as long as none leads to itself at the left.
type parts struct {
	g     api.Grammar
	w     []int
	known map[part]bool
}

// ahead tells whether the tokens of a part come of its symbols: some of those ahead of the last one, the others of that.
func (p *parts) ahead(at part) bool {
	if at.dot == 0 {
		return at.from == at.to
	}
	is, ok := p.known[at]
	if ok {
		return is
	}
	s := p.g.Prods[at.prod].Right[at.dot-1]
	for to := at.from; to <= at.to && !is; to++ {
		is = p.ahead(part{at.prod, at.dot - 1, at.from, to}) && p.symbol(s, to, at.to)
	}
	p.known[at] = is
	return is
}

// symbol tells whether the tokens between two places come of a symbol.
func (p *parts) symbol(s api.Sym, from, to int) bool {
	if !s.Non {
		return to == from+1 && p.w[from] == s.N
	}
	for prod, of := range p.g.Prods {
		if of.Left == s.N && p.ahead(part{prod, len(of.Right), from, to}) {
			return true
		}
	}
	return false
}

// asked tells at which places something may come of which nonterminals: of Start at the first one; and of one that is next in a production behind what comes of the symbols ahead, from a place at which something may come of that one's nonterminal.
func (p *parts) asked() []map[int]bool {
	l := make([]map[int]bool, len(p.w)+1)
	for at := range l {
		l[at] = map[int]bool{}
	}
	l[0][p.g.Start] = true
	for many := 0; many != asks(l); {
		many = asks(l)
		for from := range l {
			for prod, of := range p.g.Prods {
				for dot, s := range of.Right {
					for to := from; to <= len(p.w) && s.Non && l[from][of.Left]; to++ {
						if p.ahead(part{prod, dot, from, to}) {
							l[to][s.N] = true
						}
					}
				}
			}
		}
	}
	return l
}

func asks(l []map[int]bool) int {
	many := 0
	for _, set := range l {
		many += len(set)
	}
	return many
}

// byParts are a word's sets, by its parts: an item stands at a place, if something may come of its nonterminal where it began, and the part up to this place comes of the symbols that are behind.
func byParts(g api.Grammar, w []int) [][]api.Item {
	p := parts{g, w, map[part]bool{}}
	asked := p.asked()
	l := make([][]api.Item, len(w)+1)
	for at := range l {
		for prod, of := range g.Prods {
			for dot := range len(of.Right) + 1 {
				for from := range at + 1 {
					if asked[from][of.Left] && p.ahead(part{prod, dot, from, at}) {
						l[at] = append(l[at], item(prod, dot, from))
					}
				}
			}
		}
	}
	return l
}

// nextBy is what is next at items: each place in the grammar's productions is gone through, and looked for among the items.
func nextBy(g api.Grammar, set []api.Item) uint32 {
	bits := uint32(0)
	for prod, p := range g.Prods {
		for dot, s := range p.Right {
			if !s.Non && slices.ContainsFunc(set, func(it api.Item) bool { return it.Prod == prod && it.Dot == dot }) {
				bits |= 1 << s.N
			}
		}
		if p.Left == g.Start && slices.Contains(set, item(prod, len(p.Right), 0)) {
			bits |= 1 << chart.End
		}
	}
	return bits
}

// stopBy tells of a word's sets at which place it stops.
func stopBy(g api.Grammar, w []int, sets [][]api.Item) (int, uint32, bool) {
	for at, tok := range append(slices.Clone(w), chart.End) {
		if bits := nextBy(g, sets[at]); bits&(1<<tok) == 0 {
			return at, bits, true
		}
	}
	return 0, 0, false
}
