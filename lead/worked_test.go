package lead_test

import (
	"slices"

	"probate/api"
	"probate/gram"
	"probate/lead"
	"probate/rank"
	"probate/tree"
)

// What follows works out what is told, from the productions alone, in two ways: by a search through all there is, and by a word's parts.

// leastTokens is, of each nonterminal, how many tokens come of it at least.
func leastTokens(g api.Grammar) []int {
	l := make([]int, g.Nons)
	for range g.Nons {
		for non := range l {
			l[non] = 1 << 20
			for _, i := range gram.Of(g, non) {
				l[non] = min(l[non], tokensOf(l, g.Prods[i].Right))
			}
		}
	}
	return l
}

func tokensOf(least []int, symbols []api.Sym) int {
	many := 0
	for _, s := range symbols {
		if s.Non {
			many += least[s.N]
		} else {
			many++
		}
	}
	return min(many, 1<<20)
}

// search goes through all that comes of symbols.
type search struct {
	g     api.Grammar
	least []int
	found [][]int
}

// derivations are all of a word, found by taking each production in the leftmost nonterminal's place. It ends, as long as none leads to itself at the left.
func derivations(g api.Grammar, w []int) [][]int {
	s := search{g: g, least: leastTokens(g)}
	s.all([]api.Sym{{Non: true, N: g.Start}}, w, nil)
	return s.found
}

// all goes on from symbols of which the rest of a word is to come, behind some productions.
func (s *search) all(symbols []api.Sym, w, behind []int) {
	if tokensOf(s.least, symbols) > len(w) {
		return
	}
	if len(symbols) == 0 {
		if len(w) == 0 {
			s.found = append(s.found, slices.Clone(behind))
		}
		return
	}
	first, rest := symbols[0], symbols[1:]
	if !first.Non {
		if w[0] == first.N {
			s.all(rest, w[1:], behind)
		}
		return
	}
	for _, i := range gram.Of(s.g, first.N) {
		s.all(slices.Concat(s.g.Prods[i].Right, rest), w, append(behind, i))
	}
}

// may tells whether a word that begins with a row of tokens comes of symbols, if a word comes of each of them.
func may(g api.Grammar, symbols []api.Sym, w []int) bool {
	if len(w) == 0 {
		return true
	}
	if len(symbols) == 0 {
		return false
	}
	first, rest := symbols[0], symbols[1:]
	if !first.Non {
		return w[0] == first.N && may(g, rest, w[1:])
	}
	return slices.ContainsFunc(gram.Of(g, first.N), func(i int) bool {
		return may(g, slices.Concat(g.Prods[i].Right, rest), w)
	})
}

// beginning is the derivation that the chapter's words tell for Begin, one production after the other; nil, if there is none.
func beginning(g api.Grammar, w []int) []int {
	left := []api.Sym{{Non: true, N: g.Start}}
	if !may(g, left, w) {
		return nil
	}
	facts := rank.Productive(g)
	var l []int
	for len(left) > 0 {
		first, rest := left[0], left[1:]
		left = rest
		if !first.Non {
			w = w[min(1, len(w)):]
			continue
		}
		prod := facts[first.N].Prod
		if len(w) > 0 {
			of := gram.Of(g, first.N)
			prod = of[slices.IndexFunc(of, func(i int) bool { return may(g, slices.Concat(g.Prods[i].Right, rest), w) })]
		}
		l, left = append(l, prod), slices.Concat(g.Prods[prod].Right, rest)
	}
	return l
}

// bySearch is what is told in a kind; nil, if there is none.
func bySearch(g api.Grammar, w []int, kind int) []int {
	if kind == lead.Begin {
		return beginning(g, w)
	}
	var told []int
	for i, l := range derivations(g, w) {
		if i == 0 || tree.Less(l, told) == (kind == lead.Least) {
			told = l
		}
	}
	return told
}

// part is what is asked: the productions by which the tokens between two places come of a production's symbols, from one of them on, or of a nonterminal (prod is -1).
type part struct{ non, prod, symbol, from, to int }

// parts answers what is asked of one word, each part once. An answer is the least one there is, or the greatest, cut behind MostSteps productions and one; nil, if there is none.
type parts struct {
	g        api.Grammar
	w        []int
	greatest bool
	known    map[part][]int
}

// better is the one of two answers that is asked for. Of two that are cut, and the same up to there, it doesn't matter which.
func (p *parts) better(a, b []int) []int {
	if a == nil || b != nil && tree.Less(b, a) != p.greatest {
		return b
	}
	return a
}

// with is one list behind another, cut.
func with(a, b []int) []int {
	if a == nil || b == nil {
		return nil
	}
	l := append(append([]int{}, a...), b...)
	return l[:min(len(l), api.MostSteps+1)]
}

// non asks for a nonterminal.
func (p *parts) non(non, from, to int) []int {
	at := part{non, -1, 0, from, to}
	l, ok := p.known[at]
	if ok {
		return l
	}
	for _, i := range gram.Of(p.g, non) {
		l = p.better(l, with([]int{i}, p.symbols(part{non, i, 0, from, to})))
	}
	p.known[at] = l
	return l
}

// symbols asks for those of a production from one on: the first one takes some tokens, and those behind it the others.
func (p *parts) symbols(at part) []int {
	right := p.g.Prods[at.prod].Right[at.symbol:]
	if len(right) == 0 {
		if at.from == at.to {
			return []int{}
		}
		return nil
	}
	l, ok := p.known[at]
	if ok {
		return l
	}
	behind := at
	behind.symbol++
	for behind.from = at.from; behind.from <= at.to; behind.from++ {
		if first := p.first(right[0], at.from, behind.from); first != nil {
			l = p.better(l, with(first, p.symbols(behind)))
		}
	}
	p.known[at] = l
	return l
}

// first asks for a symbol.
func (p *parts) first(s api.Sym, from, to int) []int {
	if s.Non {
		return p.non(s.N, from, to)
	}
	if to == from+1 && p.w[from] == s.N {
		return []int{}
	}
	return nil
}

// begin asks for the productions of a nonterminal behind the last one of which the rest of the word, of a token at least, is there: ahead of the leftmost nonterminal that is left then.
func (p *parts) begin(non, from int) []int {
	at := part{non, -1, 0, from, -1}
	l, ok := p.known[at]
	if ok {
		return l
	}
	for _, i := range gram.Of(p.g, non) {
		l = p.better(l, with([]int{i}, p.beginSymbols(part{non, i, 0, from, -1})))
	}
	p.known[at] = l
	return l
}

// beginSymbols asks likewise for those of a production from one on: the whole rest is there within the first one's, or some tokens come of it, and the others are there within what is behind it.
func (p *parts) beginSymbols(at part) []int {
	if at.from == len(p.w) {
		return []int{}
	}
	right := p.g.Prods[at.prod].Right[at.symbol:]
	if len(right) == 0 {
		return nil
	}
	l, ok := p.known[at]
	if ok {
		return l
	}
	behind, to := at, len(p.w)
	behind.symbol++
	if right[0].Non {
		l = p.begin(right[0].N, at.from)
		to--
	}
	for behind.from = at.from; behind.from <= to; behind.from++ {
		if first := p.first(right[0], at.from, behind.from); first != nil {
			l = p.better(l, with(first, p.beginSymbols(behind)))
		}
	}
	p.known[at] = l
	return l
}

// finished goes on with productions behind which the whole word is there, by facts, up to MostSteps productions and one.
func finished(g api.Grammar, l []int) []int {
	facts, done := rank.Productive(g), slices.Clone(l)
	l = nil
	for left := []api.Sym{{Non: true, N: g.Start}}; len(left) > 0 && len(l) <= api.MostSteps; {
		first := left[0]
		left = left[1:]
		if !first.Non {
			continue
		}
		prod := facts[first.N].Prod
		if len(l) < len(done) {
			prod = done[len(l)]
		}
		l, left = append(l, prod), slices.Concat(g.Prods[prod].Right, left)
	}
	return l
}

// byParts is what is told in a kind, and the error.
func byParts(g api.Grammar, w []int, kind int) ([]int, api.Errno) {
	p := parts{g, w, kind == lead.Greatest, map[part][]int{}}
	var l []int
	switch {
	case kind != lead.Begin:
		l = p.non(g.Start, 0, len(w))
	case len(w) == 0:
		l = finished(g, []int{})
	default:
		if l = p.begin(g.Start, 0); l != nil {
			l = finished(g, l)
		}
	}
	if l == nil {
		return nil, api.ErrNone
	}
	if len(l) > api.MostSteps {
		return nil, api.ErrBig
	}
	return l, api.OK
}
