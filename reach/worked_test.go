package reach_test

import (
	"math/rand"
	"slices"
	"testing"

	"probate/api"
	"probate/reach"
)

// What follows works out ranks a second time, from who is to be reached back to Start, and once more what facts show, by the chapter's words.

// stands tells whether a nonterminal is one of a production's symbols.
func stands(p api.Prod, non int) bool {
	return slices.ContainsFunc(p.Right, func(s api.Sym) bool { return s.Non && s.N == non })
}

// leads tells whether so many productions, one behind the other, lead from Start to a nonterminal.
func leads(g api.Grammar, non, many int, known map[[2]int]bool) bool {
	if many == 0 {
		return non == g.Start
	}
	at := [2]int{non, many}
	if is, ok := known[at]; ok {
		return is
	}
	known[at] = slices.ContainsFunc(g.Prods, func(p api.Prod) bool { return stands(p, non) && leads(g, p.Left, many-1, known) })
	return known[at]
}

// worked are the facts of a grammar.
func worked(g api.Grammar) []api.Fact {
	known := map[[2]int]bool{}
	far := make([]int, g.Nons)
	for non := range far {
		for many := g.Nons + 1; many >= 0; many-- { // the last one is the least
			if leads(g, non, many, known) {
				far[non] = many + 1
			}
		}
	}
	l := make([]api.Fact, g.Nons)
	for non := range l {
		l[non].Rank = far[non]
		if far[non] > 1 {
			l[non].Prod = slices.IndexFunc(g.Prods, func(p api.Prod) bool { return stands(p, non) && far[p.Left] == far[non]-1 })
		}
	}
	return l
}

// shown tells whether facts show.
func shown(g api.Grammar, l []api.Fact) bool {
	if len(l) != g.Nons {
		return false
	}
	for non, f := range l {
		switch {
		case non == g.Start:
			if f.Rank != 1 || f.Prod != 0 {
				return false
			}
		case f.Rank == 0:
			if f.Prod != 0 {
				return false
			}
		case f.Rank < 0, f.Prod < 0, f.Prod >= len(g.Prods), !stands(g.Prods[f.Prod], non):
			return false
		default:
			if of := l[g.Prods[f.Prod].Left].Rank; of < 1 || of >= f.Rank {
				return false
			}
		}
	}
	return true
}

// holds holds what is told of a grammar against what was worked out, that it shows, and that what stands in a production of who is reached is reached, and by 1 more at most.
func holds(t *testing.T, g api.Grammar) {
	t.Helper()
	l := reach.Reach(g)
	if want := worked(g); !slices.Equal(l, want) {
		t.Fatalf("Reach of %v: %v, not %v", g, l, want)
	}
	if !reach.Shows(g, l) {
		t.Fatalf("of %v %v don't show", g, l)
	}
	for _, p := range g.Prods {
		for _, s := range p.Right {
			if of := l[p.Left].Rank; s.Non && of > 0 && (l[s.N].Rank < 1 || l[s.N].Rank > of+1) {
				t.Fatalf("of %v %v: %v leads to %d", g, l, p, s.N)
			}
		}
	}
}

// productions are all there are, of rights up to so many symbols.
func productions(terms, nons, most int) []api.Prod {
	var symbols []api.Sym
	for n := range terms {
		symbols = append(symbols, api.Sym{N: n})
	}
	for n := range nons {
		symbols = append(symbols, api.Sym{Non: true, N: n})
	}
	rights := [][]api.Sym{nil}
	for i := 0; i < len(rights); i++ {
		for _, s := range symbols {
			if len(rights[i]) < most {
				rights = append(rights, append(slices.Clone(rights[i]), s))
			}
		}
	}
	var l []api.Prod
	for n := range nons {
		for _, r := range rights {
			l = append(l, api.Prod{Left: n, Right: r})
		}
	}
	return l
}

// each goes through all grammars of up to so many of these productions, in order.
func each(g api.Grammar, of []api.Prod, most int, do func(g api.Grammar)) {
	do(g)
	if len(g.Prods) == most {
		return
	}
	for _, p := range of {
		with := g
		with.Prods = append(slices.Clip(g.Prods), p)
		each(with, of, most, do)
	}
}

// starts goes through all grammars of up to so many of these productions, in order, with each Start.
func starts(g api.Grammar, of []api.Prod, most int, do func(g api.Grammar)) {
	each(g, of, most, func(g api.Grammar) {
		for g.Start = range g.Nons {
			do(g)
		}
	})
}

// eachFacts goes through all facts, one for each nonterminal, of Ranks up to so much, in order, in which each Prod is a production in which the nonterminal stands.
func eachFacts(g api.Grammar, most int, l []api.Fact, do func(l []api.Fact)) {
	if len(l) == g.Nons {
		do(l)
		return
	}
	eachFacts(g, most, append(l, api.Fact{}), do)
	if len(l) == g.Start {
		eachFacts(g, most, append(l, api.Fact{Rank: 1}), do)
	}
	for i, p := range g.Prods {
		for r := 1; r <= most && stands(p, len(l)); r++ {
			eachFacts(g, most, append(l, api.Fact{Rank: r, Prod: i}), do)
		}
	}
}

// P10.1, P10.3: all small grammars.
func TestSmall(t *testing.T) {
	many := 0
	count := func(g api.Grammar) {
		many++
		holds(t, g)
	}
	starts(api.Grammar{Terms: 1, Nons: 1}, productions(1, 1, 2), 3, count)
	starts(api.Grammar{Terms: 1, Nons: 2}, productions(1, 2, 2), 3, count)
	starts(api.Grammar{Terms: 1, Nons: 3}, productions(1, 3, 1), 4, count)
	starts(api.Grammar{Nons: 3}, productions(0, 3, 2), 3, count)
	starts(api.Grammar{Nons: 4}, productions(0, 4, 1), 4, count)
	if many < 400000 {
		t.Errorf("%d grammars alone", many)
	}
}

// leasts tells, of all facts of small ranks that show, the least Rank of each nonterminal; and holds that just those show that do.
func leasts(t *testing.T, g api.Grammar) []int {
	t.Helper()
	l := make([]int, g.Nons)
	eachFacts(g, g.Nons+1, nil, func(some []api.Fact) {
		is := reach.Shows(g, some)
		if is != shown(g, some) {
			t.Fatalf("Shows(%v, %v): %v", g, some, is)
		}
		for non, f := range some {
			if is && f.Rank > 0 && (l[non] == 0 || f.Rank < l[non]) {
				l[non] = f.Rank
			}
		}
	})
	return l
}

// P10.2, P10.3: of all facts of small ranks, those that show have no Rank less than the one that is told, nor one where none is told; and the least one is there.
func TestAllFacts(t *testing.T) {
	high := map[int]int{}
	hold := func(g api.Grammar) {
		least := leasts(t, g)
		for non, f := range reach.Reach(g) {
			if f.Rank != least[non] {
				t.Fatalf("of %v is told %v, and shown %d of %d", g, f, least[non], non)
			}
			high[f.Rank]++
		}
	}
	starts(api.Grammar{Terms: 1, Nons: 1}, productions(1, 1, 2), 2, hold)
	starts(api.Grammar{Terms: 1, Nons: 2}, productions(1, 2, 2), 2, hold)
	starts(api.Grammar{Terms: 1, Nons: 3}, productions(1, 3, 1), 3, hold)
	starts(api.Grammar{Nons: 3}, productions(0, 3, 2), 2, hold)
	for rank := range 4 {
		if high[rank] < 500 {
			t.Errorf("%d ranks of %d alone", high[rank], rank)
		}
	}
}

// P10.2: facts that may not be, one for each nonterminal, of all small grammars.
func TestAllWrongFacts(t *testing.T) {
	hold := func(g api.Grammar) {
		for i := range 5 * 5 * 5 * 5 {
			l := []api.Fact{{Rank: i%5 - 1, Prod: i/5%5 - 1}, {Rank: i/25%5 - 1, Prod: i/125 - 1}}
			if got := reach.Shows(g, l); got != shown(g, l) {
				t.Fatalf("Shows(%v, %v): %v", g, l, got)
			}
		}
	}
	starts(api.Grammar{Terms: 2, Nons: 2}, productions(2, 2, 1), 2, hold)
	starts(api.Grammar{Nons: 2}, productions(0, 2, 2), 2, hold)
}

// anyOne is a grammar of any size, in which most productions lead to nonterminals of greater numbers, so that ranks are many, and are shuffled then.
func anyOne(r *rand.Rand) api.Grammar {
	g := api.Grammar{Terms: api.MostTerms, Nons: 1 + r.Intn(api.MostNons)}
	names := r.Perm(g.Nons)
	g.Start = names[r.Intn(1+r.Intn(g.Nons))]
	ring, wide := r.Intn(4), 1+r.Intn(3)
	for range r.Intn(api.MostProds + 1) {
		left := r.Intn(g.Nons)
		p := api.Prod{Left: names[left]}
		for range r.Intn(1 + r.Intn(api.MostRight+1)) {
			switch {
			case r.Intn(3) == 0:
				p.Right = append(p.Right, api.Sym{N: r.Intn(g.Terms)})
			case r.Intn(40) < ring || left == g.Nons-1:
				p.Right = append(p.Right, api.Sym{Non: true, N: r.Intn(g.Nons)})
			default:
				p.Right = append(p.Right, api.Sym{Non: true, N: names[left+1+r.Intn(min(wide, g.Nons-1-left))]})
			}
		}
		g.Prods = append(g.Prods, p)
	}
	return g
}

// scratch changes a few of a list of facts.
func scratch(r *rand.Rand, g api.Grammar, l []api.Fact) []api.Fact {
	for range 1 + r.Intn(3) {
		non := r.Intn(len(l))
		f := &l[non]
		switch r.Intn(6) {
		case 0:
			f.Rank += r.Intn(5) - 2
		case 1:
			f.Prod += r.Intn(3) - 1
		case 2:
			*f = api.Fact{}
		case 3:
			f.Rank++
		case 4:
			f.Prod = max(0, slices.IndexFunc(g.Prods, func(p api.Prod) bool { return stands(p, non) }))
		default:
			for i := range l { // gaps between all ranks show, too
				if l[i].Rank > 1 {
					l[i].Rank *= 3
				}
			}
		}
	}
	return l
}

// P10.1, P10.2, P10.3: any grammars, up to the limits; and what is told of them, changed at a few places.
func TestAny(t *testing.T) {
	r := rand.New(rand.NewSource(101))
	high, yes, no := map[int]int{}, 0, 0
	for range 6000 {
		g := anyOne(r)
		holds(t, g)
		told := reach.Reach(g)
		high[slices.MaxFunc(told, func(a, b api.Fact) int { return a.Rank - b.Rank }).Rank]++
		for range 10 {
			l := scratch(r, g, slices.Clone(told))
			is := reach.Shows(g, l)
			if is != shown(g, l) {
				t.Fatalf("Shows(%v, %v): %v", g, l, is)
			}
			if !is {
				no++
				continue
			}
			yes++
			for non, f := range l {
				if f.Rank > 0 && (told[non].Rank < 1 || told[non].Rank > f.Rank) {
					t.Fatalf("of %v is told %v, and shown %v", g, told, l)
				}
			}
		}
	}
	if yes < 5000 || no < 5000 {
		t.Errorf("%d that show, %d that don't: too few to show anything", yes, no)
	}
	for rank := 1; rank < 10; rank++ {
		if high[rank] < 20 {
			t.Errorf("%d grammars with a rank of %d: too few to show anything", high[rank], rank)
		}
	}
}
