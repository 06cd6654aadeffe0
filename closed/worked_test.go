package closed_test

import (
	"slices"

	"probate/api"
	"probate/gram"
)

// What follows works out from the chapter's words alone what keeps sets from being closed, and a derivation from being alone in them.

// lack is what isn't there and must be, by one of the sentences.
type lack struct {
	why string
	at  int
	it  api.Item
}

// lacks tells all that isn't there and must be: each item that may stand where it does is held against each sentence.
func lacks(g api.Grammar, w []int, sets [][]api.Item) []lack {
	has := map[[4]int]bool{}
	for at, set := range sets {
		for _, it := range set {
			has[[4]int{at, it.Prod, it.Dot, it.From}] = true
		}
	}
	var l []lack
	must := func(why string, at, prod, dot, from int) {
		if at < len(sets) && !has[[4]int{at, prod, dot, from}] {
			l = append(l, lack{why, at, item(prod, dot, from)})
		}
	}
	for prod, p := range g.Prods {
		if p.Left == g.Start {
			must("start", 0, prod, 0, 0)
		}
	}
	for at, set := range sets {
		for _, it := range set {
			if wrong(g, at, it) != "" {
				continue
			}
			left, right := g.Prods[it.Prod].Left, g.Prods[it.Prod].Right
			if it.Dot < len(right) && right[it.Dot].Non {
				for prod, p := range g.Prods {
					if p.Left == right[it.Dot].N {
						must("begin", at, prod, 0, at)
					}
				}
			}
			if it.Dot < len(right) && !right[it.Dot].Non && at < len(w) && right[it.Dot].N == w[at] {
				must("token", at+1, it.Prod, it.Dot+1, it.From)
			}
			if it.Dot == len(right) {
				for _, waits := range sets[it.From] {
					if wrong(g, it.From, waits) == "" && nextIs(g, waits, left) {
						must("whole", at, waits.Prod, waits.Dot+1, waits.From)
					}
				}
			}
		}
	}
	return l
}

// nextIs tells whether an item's next symbol is a nonterminal.
func nextIs(g api.Grammar, it api.Item, non int) bool {
	right := g.Prods[it.Prod].Right
	return it.Dot < len(right) && right[it.Dot] == api.Sym{Non: true, N: non}
}

// wrong tells which part of an item keeps it from standing at a place.
func wrong(g api.Grammar, at int, it api.Item) string {
	switch {
	case it.Prod < 0 || it.Prod > len(g.Prods)-1:
		return "Prod"
	case it.Dot < 0 || it.Dot > len(g.Prods[it.Prod].Right):
		return "Dot"
	case it.From < 0 || it.From > at:
		return "From"
	}
	return ""
}

// faults are all reasons for which sets aren't closed, each once.
func faults(g api.Grammar, w []int, sets [][]api.Item) []string {
	var l []string
	say := func(is bool, why string) {
		if is && !slices.Contains(l, why) {
			l = append(l, why)
		}
	}
	if say(!gram.Right(g), "grammar"); len(l) > 0 {
		return l
	}
	say(len(sets) == 0, "none")
	say(len(sets) > len(w)+1, "many")
	for at, set := range sets {
		for _, it := range set {
			why := wrong(g, at, it)
			say(why != "", why)
		}
	}
	for _, one := range lacks(g, w, sets) {
		say(true, one.why)
	}
	return l
}

// grown are sets, and all that follows from what stands there.
func grown(g api.Grammar, w []int, sets [][]api.Item) [][]api.Item {
	sets = copied(sets)
	for {
		l := lacks(g, w, sets)
		if len(l) == 0 {
			return sets
		}
		for _, one := range l {
			if !slices.Contains(sets[one.at], one.it) {
				sets[one.at] = append(sets[one.at], one.it)
			}
		}
	}
}

// least are the word's sets, each in some order.
func least(g api.Grammar, w []int) [][]api.Item {
	return grown(g, w, make([][]api.Item, len(w)+1))
}

// full are so many sets of all items that may stand there.
func full(g api.Grammar, many int) [][]api.Item {
	l := make([][]api.Item, many)
	for at := range l {
		for prod, p := range g.Prods {
			for dot := range len(p.Right) + 1 {
				for from := range at + 1 {
					l[at] = append(l[at], item(prod, dot, from))
				}
			}
		}
	}
	return l
}

// node is a production of a derivation, and where its symbols begin, and the last one ends.
type node struct {
	prod int
	at   []int
}

// replaying is how far a derivation is gone through.
type replaying struct {
	g     api.Grammar
	l     []int
	word  []int
	nodes []node
}

// replay tells a derivation's word and nodes, one in the other, and whether it is one.
func replay(g api.Grammar, l []int) ([]int, []node, bool) {
	r := replaying{g: g, l: l}
	is := gram.Right(g) && len(l) <= api.MostSteps && r.of(g.Start) && len(r.l) == 0
	return r.word, r.nodes, is
}

// of takes what comes of a nonterminal.
func (r *replaying) of(non int) bool {
	if len(r.l) == 0 {
		return false
	}
	prod := r.l[0]
	if prod < 0 || prod > len(r.g.Prods)-1 || r.g.Prods[prod].Left != non {
		return false
	}
	r.l = r.l[1:]
	mine := len(r.nodes)
	r.nodes = append(r.nodes, node{prod, []int{len(r.word)}})
	for _, s := range r.g.Prods[prod].Right {
		if !s.Non {
			r.word = append(r.word, s.N)
		} else if !r.of(s.N) {
			return false
		}
		r.nodes[mine].at = append(r.nodes[mine].at, len(r.word))
	}
	return true
}

// standing tells what is said of items in sets.
type standing struct {
	g    api.Grammar
	w    []int
	sets [][]api.Item
}

// at tells whether an item stands at a place.
func (s *standing) at(at int, it api.Item) bool {
	return at < len(s.sets) && slices.Contains(s.sets[at], it)
}

// leads tells whether a symbol leads from a place to another one.
func (s *standing) leads(sym api.Sym, from, to int) bool {
	if !sym.Non {
		return to == from+1 && from < len(s.w) && s.w[from] == sym.N
	}
	for prod, p := range s.g.Prods {
		if p.Left == sym.N && s.at(to, item(prod, len(p.Right), from)) {
			return true
		}
	}
	return false
}

// another tells whether another production of a node's nonterminal is whole between its places.
func (s *standing) another(n node) bool {
	for prod, p := range s.g.Prods {
		if prod != n.prod && p.Left == s.g.Prods[n.prod].Left && s.at(n.at[len(n.at)-1], item(prod, len(p.Right), n.at[0])) {
			return true
		}
	}
	return false
}

// elsewhere tells whether a symbol of a node may begin elsewhere.
func (s *standing) elsewhere(n node) bool {
	for k, sym := range s.g.Prods[n.prod].Right {
		for m := n.at[0]; m <= n.at[k+1]; m++ {
			if m != n.at[k] && s.at(m, item(n.prod, k, n.at[0])) && s.leads(sym, m, n.at[k+1]) {
				return true
			}
		}
	}
	return false
}

// doubts are all reasons for which a derivation isn't alone in sets, each once.
func doubts(g api.Grammar, w []int, sets [][]api.Item, l []int) []string {
	var why []string
	if len(faults(g, w, sets)) > 0 {
		why = append(why, "closed")
	}
	if gram.Right(g) && len(sets) != len(w)+1 {
		why = append(why, "places")
	}
	word, nodes, is := replay(g, l)
	switch {
	case !is:
		return append(why, "derivation")
	case !slices.Equal(word, w):
		return append(why, "word")
	}
	s := standing{g, w, sets}
	if slices.ContainsFunc(nodes, s.another) {
		why = append(why, "another")
	}
	if slices.ContainsFunc(nodes, s.elsewhere) {
		why = append(why, "elsewhere")
	}
	return why
}

// leastTokens is, of each nonterminal, how many tokens come of it at least.
func leastTokens(g api.Grammar) []int {
	l := make([]int, g.Nons)
	for range g.Nons {
		for non := range l {
			l[non] = 1 << 20
			for _, p := range g.Prods {
				if p.Left == non {
					l[non] = min(l[non], tokensOf(l, p.Right))
				}
			}
		}
	}
	return l
}

func tokensOf(least []int, symbols []api.Sym) int {
	many := 0
	for _, s := range symbols {
		if s.Non {
			many += least[s.N]
		} else {
			many++
		}
	}
	return min(many, 1<<20)
}

// search goes through all that comes of symbols.
type search struct {
	g     api.Grammar
	least []int
	found [][]int
}

// derivations are all of a word, found by taking each production in the leftmost nonterminal's place. It ends, as long as none leads to itself at the left.
func derivations(g api.Grammar, w []int) [][]int {
	s := search{g: g, least: leastTokens(g)}
	s.all([]api.Sym{{Non: true, N: g.Start}}, w, nil)
	return s.found
}

// all goes on from symbols of which the rest of a word is to come, behind some productions.
func (s *search) all(symbols []api.Sym, w, behind []int) {
	if tokensOf(s.least, symbols) > len(w) {
		return
	}
	if len(symbols) == 0 {
		if len(w) == 0 {
			s.found = append(s.found, slices.Clone(behind))
		}
		return
	}
	first, rest := symbols[0], symbols[1:]
	if !first.Non {
		if w[0] == first.N {
			s.all(rest, w[1:], behind)
		}
		return
	}
	for prod, p := range s.g.Prods {
		if p.Left == first.N {
			s.all(slices.Concat(p.Right, rest), w, append(behind, prod))
		}
	}
}

// words are all of up to so many tokens.
func words(terms, most int) []string {
	l := []string{""}
	for i := 0; i < len(l); i++ {
		for n := range terms {
			if len(l[i]) < most {
				l = append(l, l[i]+string(rune('a'+n)))
			}
		}
	}
	return l
}
