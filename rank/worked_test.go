package rank_test

import (
	"math/rand"
	"slices"
	"testing"

	"probate/api"
	"probate/gram"
	"probate/rank"
)

// What follows works out ranks a second time, by how high the least tree is that a nonterminal has, and once more what facts show, by the chapter's words.

// trees tells of a grammar which nonterminals have a tree of some height at most.
type trees struct {
	g     api.Grammar
	terms bool
	known map[[2]int]bool
}

// has tells whether a nonterminal has a tree no higher than so much.
func (x trees) has(non, high int) bool {
	if high < 1 {
		return false
	}
	at := [2]int{non, high}
	if is, ok := x.known[at]; ok {
		return is
	}
	for _, p := range x.g.Prods {
		x.known[at] = x.known[at] || p.Left == non && x.begins(p, high)
	}
	return x.known[at]
}

// begins tells whether a production is the uppermost one of such a tree.
func (x trees) begins(p api.Prod, high int) bool {
	return !slices.ContainsFunc(p.Right, func(s api.Sym) bool {
		return s.Non && !x.has(s.N, high-1) || !s.Non && !x.terms
	})
}

// worked are the facts of a grammar.
func worked(g api.Grammar, terms bool) []api.Fact {
	x := trees{g, terms, map[[2]int]bool{}}
	l := make([]api.Fact, g.Nons)
	for non := range l {
		for high := g.Nons + 2; x.has(non, high); high-- { // the last one is the least
			first := slices.IndexFunc(g.Prods, func(p api.Prod) bool { return p.Left == non && x.begins(p, high) })
			l[non] = api.Fact{Rank: high, Prod: first}
		}
	}
	return l
}

// shown tells whether facts show ranks.
func shown(g api.Grammar, l []api.Fact, terms bool) bool {
	if len(l) != g.Nons {
		return false
	}
	for non, f := range l {
		switch {
		case f.Rank < 0, f.Rank == 0 && f.Prod != 0:
			return false
		case f.Rank == 0:
			continue
		case f.Prod < 0, f.Prod >= len(g.Prods), g.Prods[f.Prod].Left != non:
			return false
		}
		for _, s := range g.Prods[f.Prod].Right {
			if s.Non && !(1 <= l[s.N].Rank && l[s.N].Rank < f.Rank) || !s.Non && !terms {
				return false
			}
		}
	}
	return true
}

// bare tells whether no terminal stands in the productions of facts.
func bare(g api.Grammar, l []api.Fact) bool {
	for _, f := range l {
		if f.Rank > 0 && slices.ContainsFunc(g.Prods[f.Prod].Right, func(s api.Sym) bool { return !s.Non }) {
			return false
		}
	}
	return true
}

// holds holds what is told of a grammar against what was worked out, and that both show.
func holds(t *testing.T, g api.Grammar) {
	t.Helper()
	nullable, productive := rank.Nullable(g), rank.Productive(g)
	if want := worked(g, false); !slices.Equal(nullable, want) {
		t.Fatalf("Nullable of %v: %v, not %v", g, nullable, want)
	}
	if want := worked(g, true); !slices.Equal(productive, want) {
		t.Fatalf("Productive of %v: %v, not %v", g, productive, want)
	}
	if !rank.Shows(g, nullable, false) || !rank.Shows(g, nullable, true) || !rank.Shows(g, productive, true) {
		t.Fatalf("of %v %v and %v don't show", g, nullable, productive)
	}
	if rank.Shows(g, productive, false) != bare(g, productive) {
		t.Fatalf("of %v without terminals: %v", g, productive)
	}
}

// productions are all there are, of rights up to so many symbols.
func productions(terms, nons, most int) []api.Prod {
	var symbols []api.Sym
	for n := range terms {
		symbols = append(symbols, api.Sym{N: n})
	}
	for n := range nons {
		symbols = append(symbols, api.Sym{Non: true, N: n})
	}
	rights := [][]api.Sym{nil}
	for i := 0; i < len(rights); i++ {
		for _, s := range symbols {
			if len(rights[i]) < most {
				rights = append(rights, append(slices.Clone(rights[i]), s))
			}
		}
	}
	var l []api.Prod
	for n := range nons {
		for _, r := range rights {
			l = append(l, api.Prod{Left: n, Right: r})
		}
	}
	return l
}

// each goes through all grammars of up to so many of these productions, in order.
func each(g api.Grammar, of []api.Prod, most int, do func(g api.Grammar)) {
	do(g)
	if len(g.Prods) == most {
		return
	}
	for _, p := range of {
		with := g
		with.Prods = append(slices.Clip(g.Prods), p)
		each(with, of, most, do)
	}
}

// eachFacts goes through all facts, one for each nonterminal, of Ranks up to so much, in order.
func eachFacts(g api.Grammar, most int, l []api.Fact, do func(l []api.Fact)) {
	if len(l) == g.Nons {
		do(l)
		return
	}
	eachFacts(g, most, append(l, api.Fact{}), do)
	for _, prod := range gram.Of(g, len(l)) {
		for r := 1; r <= most; r++ {
			eachFacts(g, most, append(l, api.Fact{Rank: r, Prod: prod}), do)
		}
	}
}

// P9.1, P9.3: all small grammars.
func TestSmall(t *testing.T) {
	many := 0
	count := func(g api.Grammar) {
		many++
		holds(t, g)
	}
	each(api.Grammar{Terms: 1, Nons: 1}, productions(1, 1, 2), 4, count)
	each(api.Grammar{Terms: 1, Nons: 2}, productions(1, 2, 2), 3, count)
	each(api.Grammar{Terms: 1, Nons: 3}, productions(1, 3, 1), 4, count)
	each(api.Grammar{Nons: 4}, productions(0, 4, 1), 4, count)
	if many < 200000 {
		t.Errorf("%d grammars alone", many)
	}
}

// leasts tells, of all facts of small ranks that show, the least Rank of each nonterminal, and the least Prod with it; and holds that just those show that do.
func leasts(t *testing.T, g api.Grammar, terms bool) []api.Fact {
	t.Helper()
	l := make([]api.Fact, g.Nons)
	eachFacts(g, g.Nons+1, nil, func(some []api.Fact) {
		is := rank.Shows(g, some, terms)
		if is != shown(g, some, terms) {
			t.Fatalf("Shows(%v, %v, %v): %v", g, some, terms, is)
		}
		for non, f := range some {
			if is && f.Rank > 0 && (l[non].Rank == 0 || f.Rank < l[non].Rank || f.Rank == l[non].Rank && f.Prod < l[non].Prod) {
				l[non] = f
			}
		}
	})
	return l
}

// P9.2, P9.3: of all facts of small ranks, those that show have no Rank less than the one that is told, nor one where none is told; and the least one is there.
func TestAllFacts(t *testing.T) {
	ranked := 0
	hold := func(g api.Grammar) {
		for terms, told := range map[bool][]api.Fact{false: rank.Nullable(g), true: rank.Productive(g)} {
			if want := leasts(t, g, terms); !slices.Equal(told, want) {
				t.Fatalf("of %v, %v, is told %v, and shown %v", g, terms, told, want)
			}
			for _, f := range told {
				ranked += f.Rank
			}
		}
	}
	each(api.Grammar{Terms: 1, Nons: 1}, productions(1, 1, 2), 3, hold)
	each(api.Grammar{Terms: 1, Nons: 2}, productions(1, 2, 2), 2, hold)
	each(api.Grammar{Terms: 1, Nons: 2}, productions(1, 2, 1), 4, hold)
	each(api.Grammar{Terms: 1, Nons: 3}, productions(1, 3, 1), 3, hold)
	if ranked < 10000 {
		t.Errorf("ranks of %d in all: too few to show anything", ranked)
	}
}

// P9.2: facts that may not be, one for each nonterminal, of all small grammars.
func TestAllWrongFacts(t *testing.T) {
	each(api.Grammar{Terms: 1, Nons: 2}, productions(1, 2, 1), 2, func(g api.Grammar) {
		for i := range 5 * 5 * 5 * 5 {
			l := []api.Fact{{Rank: i%5 - 1, Prod: i/5%5 - 1}, {Rank: i/25%5 - 1, Prod: i/125 - 1}}
			for _, terms := range []bool{false, true} {
				if got := rank.Shows(g, l, terms); got != shown(g, l, terms) {
					t.Fatalf("Shows(%v, %v, %v): %v", g, l, terms, got)
				}
			}
		}
	})
}

// anyOne is a grammar in which most productions lead to nonterminals of greater numbers, so that ranks are many, and are shuffled then.
func anyOne(r *rand.Rand) api.Grammar {
	g := api.Grammar{Terms: api.MostTerms, Nons: 1 + r.Intn(api.MostNons)}
	names := r.Perm(g.Nons)
	least, ring := r.Intn(g.Nons+1), r.Intn(12)
	for range r.Intn(api.MostProds + 1) {
		left := r.Intn(g.Nons)
		p := api.Prod{Left: names[left]}
		for range r.Intn(1 + r.Intn(api.MostRight)) {
			switch {
			case r.Intn(12) == 0:
				p.Right = append(p.Right, api.Sym{N: r.Intn(g.Terms)})
			case r.Intn(12) < ring || left == g.Nons-1:
				p.Right = append(p.Right, api.Sym{Non: true, N: r.Intn(g.Nons)})
			default:
				p.Right = append(p.Right, api.Sym{Non: true, N: names[left+1+r.Intn(min(3, g.Nons-1-left))]})
			}
		}
		if left < least && len(p.Right) == 0 && left+1 < g.Nons {
			p.Right = []api.Sym{{Non: true, N: names[left+1]}}
		}
		g.Prods = append(g.Prods, p)
	}
	return g
}

// scratch changes a few of a list of facts.
func scratch(r *rand.Rand, g api.Grammar, l []api.Fact) []api.Fact {
	for range 1 + r.Intn(3) {
		f := &l[r.Intn(len(l))]
		switch r.Intn(5) {
		case 0:
			f.Rank += r.Intn(5) - 2
		case 1:
			f.Prod += r.Intn(3) - 1
		case 2:
			*f = api.Fact{}
		case 3:
			f.Rank++
		default:
			for i := range l { // gaps between all ranks show, too
				l[i].Rank *= 3
			}
		}
	}
	return l
}

// P9.1, P9.2, P9.3: any grammars, up to the limits; and what is told of them, changed at a few places.
func TestAny(t *testing.T) {
	r := rand.New(rand.NewSource(91))
	high, yes, no := map[int]int{}, 0, 0
	for range 4000 {
		g := anyOne(r)
		holds(t, g)
		for i, told := range [][]api.Fact{rank.Nullable(g), rank.Productive(g)} {
			terms := i == 1
			high[slices.MaxFunc(told, func(a, b api.Fact) int { return a.Rank - b.Rank }).Rank]++
			for range 10 {
				l := scratch(r, g, slices.Clone(told))
				is := rank.Shows(g, l, terms)
				if is != shown(g, l, terms) {
					t.Fatalf("Shows(%v, %v, %v): %v", g, l, terms, is)
				}
				if !is {
					no++
					continue
				}
				yes++
				for non, f := range l {
					if f.Rank > 0 && (told[non].Rank < 1 || told[non].Rank > f.Rank) {
						t.Fatalf("of %v, %v, is told %v, and shown %v", g, terms, told, l)
					}
				}
			}
		}
	}
	if yes < 5000 || no < 5000 {
		t.Errorf("%d that show, %d that don't: too few to show anything", yes, no)
	}
	for rank := range 9 {
		if high[rank] < 20 {
			t.Errorf("%d grammars with a rank of %d: too few to show anything", high[rank], rank)
		}
	}
}
