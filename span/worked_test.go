package span_test

import (
	"probate/api"
	"probate/span"
)

// What follows works out from the productions alone what the rows of a word are.

// withBeginnings is a grammar's productions, and others, of as many nonterminals more: of each of these come the beginnings of what comes of the one that is so many less. Such a beginning is nothing, or of a production some first symbols, and a beginning of the next one, which is all of it, if it is a terminal.
func withBeginnings(g api.Grammar) [][]api.Prod {
	of := make([][]api.Prod, 2*g.Nons)
	for non := range g.Nons {
		of[g.Nons+non] = []api.Prod{{}}
	}
	for _, p := range g.Prods {
		of[p.Left] = append(of[p.Left], p)
		for i, s := range p.Right {
			if s.Non {
				s.N += g.Nons
			}
			begin := append(append([]api.Sym{}, p.Right[:i]...), s)
			of[g.Nons+p.Left] = append(of[g.Nons+p.Left], api.Prod{Right: begin})
		}
	}
	return of
}

// part is what is asked: whether the tokens between two places come of a nonterminal's production, from one of its symbols on; of no production (-1), whether they come of the nonterminal.
type part struct{ non, prod, symbol, from, to int }

// parts answers what is asked of one word. It ends, as long as none leads to itself at the left.
type parts struct {
	of    [][]api.Prod
	w     []int
	known map[part]bool
}

// non tells whether the tokens between two places come of a nonterminal.
func (p *parts) non(non, from, to int) bool {
	at := part{non, -1, 0, from, to}
	is, ok := p.known[at]
	if ok {
		return is
	}
	for prod := range p.of[non] {
		is = is || p.symbols(part{non, prod, 0, from, to})
	}
	p.known[at] = is
	return is
}

// symbols tells whether the tokens of a part come of the symbols: some first ones of the first symbol, the others of those behind.
func (p *parts) symbols(at part) bool {
	right := p.of[at.non][at.prod].Right
	if at.symbol == len(right) {
		return at.from == at.to
	}
	is, ok := p.known[at]
	if ok {
		return is
	}
	s, behind := right[at.symbol], at
	behind.symbol++
	for behind.from = at.from; behind.from <= at.to && !is; behind.from++ {
		is = p.first(s, at.from, behind.from) && p.symbols(behind)
	}
	p.known[at] = is
	return is
}

// first tells whether the tokens between two places come of a symbol.
func (p *parts) first(s api.Sym, from, to int) bool {
	if s.Non {
		return p.non(s.N, from, to)
	}
	return to == from+1 && p.w[from] == s.N
}

// byParts are the rows of a word, by its parts.
func byParts(g api.Grammar, w []int) []span.Row {
	p := parts{withBeginnings(g), w, map[part]bool{}}
	l := make([]span.Row, len(w)+1)
	for at := range l {
		for non := range g.Nons {
			for to := at; to <= len(w); to++ {
				if p.non(non, at, to) {
					l[at].Ends[non] |= 1 << (to - at)
				}
			}
			if p.non(g.Nons+non, at, len(w)) {
				l[at].Over |= 1 << non
			}
		}
	}
	return l
}
