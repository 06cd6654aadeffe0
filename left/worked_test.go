package left_test

import (
	"math/rand"
	"slices"
	"strconv"
	"strings"
	"testing"

	"probate/api"
	"probate/gram"
	"probate/left"
)

// What follows works out steps and ways a second time, from the productions alone; and once more, from rows of symbols, who leads to itself.

// nothing tells whether nothing comes of a nonterminal by a tree of so many levels at most.
func nothing(g api.Grammar, non, levels int, known map[[2]int]bool) bool {
	at := [2]int{non, levels}
	is, ok := known[at]
	if levels == 0 || ok {
		return is
	}
	is = slices.ContainsFunc(g.Prods, func(p api.Prod) bool {
		return p.Left == non && !slices.ContainsFunc(p.Right, func(s api.Sym) bool {
			return !s.Non || !nothing(g, s.N, levels-1, known)
		})
	})
	known[at] = is
	return is
}

// nothings tells it of each nonterminal, by trees of any size: in the least one none stands below itself.
func nothings(g api.Grammar) []bool {
	known := map[[2]int]bool{}
	l := make([]bool, g.Nons)
	for non := range l {
		l[non] = nothing(g, non, g.Nons, known)
	}
	return l
}

// isStep tells whether one is, by the chapter's words.
func isStep(g api.Grammar, may []bool, s left.Step) bool {
	if s.Prod < 0 || s.Prod >= len(g.Prods) || s.Dot < 0 || s.Dot >= len(g.Prods[s.Prod].Right) {
		return false
	}
	right := g.Prods[s.Prod].Right
	return right[s.Dot].Non && !slices.ContainsFunc(right[:s.Dot], func(s api.Sym) bool { return !s.Non || !may[s.N] })
}

// isWay tells whether steps are one, by the chapter's words: the last step first.
func isWay(g api.Grammar, may []bool, from, to int, l []left.Step) bool {
	if len(l) == 0 {
		return false
	}
	s := l[len(l)-1]
	if !isStep(g, may, s) || g.Prods[s.Prod].Right[s.Dot].N != to {
		return false
	}
	ahead := g.Prods[s.Prod].Left
	return len(l) == 1 && ahead == from || isWay(g, may, from, ahead, l[:len(l)-1])
}

// allSteps are a grammar's, in their order.
func allSteps(g api.Grammar, may []bool) []left.Step {
	var l []left.Step
	for prod, p := range g.Prods {
		for dot := range p.Right {
			if s := (left.Step{Prod: prod, Dot: dot}); isStep(g, may, s) {
				l = append(l, s)
			}
		}
	}
	return l
}

// eachRow goes through all rows of so many of these steps, behind some, in their order, till it is told that it is enough.
func eachRow(of []left.Step, some []left.Step, many int, do func(l []left.Step) bool) bool {
	if many == 0 {
		return do(some)
	}
	for _, s := range of {
		if eachRow(of, append(slices.Clip(some), s), many-1, do) {
			return true
		}
	}
	return false
}

// firstWay is the first one from a nonterminal to itself of all rows of a grammar's steps, of one step at first, then of two, and so on, up to so many.
func firstWay(g api.Grammar, may []bool, of []left.Step, non, most int) []left.Step {
	var way []left.Step
	for many := 1; many <= most && way == nil; many++ {
		eachRow(of, nil, many, func(l []left.Step) bool {
			if isWay(g, may, non, non, l) {
				way = l
			}
			return way != nil
		})
	}
	return way
}

// closure is who leads to whom by any number of steps.
func closure(g api.Grammar, of []left.Step) [api.MostNons][api.MostNons]bool {
	var leads [api.MostNons][api.MostNons]bool
	for _, s := range of {
		leads[g.Prods[s.Prod].Left][g.Prods[s.Prod].Right[s.Dot].N] = true
	}
	for through := range g.Nons {
		for from := range g.Nons {
			for to := range g.Nons {
				if leads[from][through] && leads[through][to] {
					leads[from][to] = true
				}
			}
		}
	}
	return leads
}

// follows holds what the chapter says that follows, and Recursive against the closure; and tells the ways.
func follows(t *testing.T, g api.Grammar, of []left.Step) [][]left.Step {
	t.Helper()
	set, leads, ways := left.Recursive(g), closure(g, of), [][]left.Step{}
	if set>>g.Nons != 0 {
		t.Fatalf("Recursive(%v): %b", g, set)
	}
	for non := range g.Nons {
		l, is := left.Way(g, non), set>>non&1 == 1
		if is != leads[non][non] {
			t.Fatalf("Recursive(%v): %b, but of %d %v", g, set, non, leads[non][non])
		}
		if is != (l != nil) || l != nil && len(l) == 0 || len(l) > g.Nons {
			t.Fatalf("Way(%v, %d): %#v, and Recursive: %b", g, non, l, set)
		}
		if is != left.Leads(g, non, non, l) {
			t.Fatalf("Leads(%v, %d, %d, %v): %v", g, non, non, l, !is)
		}
		ways = append(ways, l)
	}
	return ways
}

// alphabet are the symbols of so many terminals and nonterminals.
func alphabet(terms, nons int) []api.Sym {
	var l []api.Sym
	for n := range terms {
		l = append(l, api.Sym{N: n})
	}
	for n := range nons {
		l = append(l, non(n))
	}
	return l
}

// productions are all there are, of rights up to so many symbols.
func productions(terms, nons, most int) []api.Prod {
	rights := [][]api.Sym{nil}
	for i := 0; i < len(rights); i++ {
		for _, s := range alphabet(terms, nons) {
			if len(rights[i]) < most {
				rights = append(rights, append(slices.Clone(rights[i]), s))
			}
		}
	}
	var l []api.Prod
	for n := range nons {
		for _, r := range rights {
			l = append(l, api.Prod{Left: n, Right: r})
		}
	}
	return l
}

// each goes through all grammars of up to so many of these productions, in order.
func each(g api.Grammar, of []api.Prod, most int, do func(g api.Grammar)) {
	do(g)
	if len(g.Prods) == most {
		return
	}
	for _, p := range of {
		with := g
		with.Prods = append(slices.Clip(g.Prods), p)
		each(with, of, most, do)
	}
}

// P13.1, P13.3: all small grammars, their productions in each order: of all rows of steps, that which is told is the first.
func TestSmall(t *testing.T) {
	high, grammars := map[int]int{}, 0
	hold := func(g api.Grammar) {
		grammars++
		may := nothings(g)
		of := allSteps(g, may)
		for non, l := range follows(t, g, of) {
			if want := firstWay(g, may, of, non, g.Nons); !slices.Equal(l, want) {
				t.Fatalf("Way(%v, %d): %v, not %v", g, non, l, want)
			}
			high[len(l)]++
		}
	}
	each(api.Grammar{Terms: 2, Nons: 1}, productions(2, 1, 2), 3, hold)
	each(api.Grammar{Nons: 1}, productions(0, 1, 8), 3, hold)
	each(api.Grammar{Terms: 1, Nons: 2, Start: 1}, productions(1, 2, 2), 3, hold)
	each(api.Grammar{Terms: 1, Nons: 2}, productions(1, 2, 3), 2, hold)
	each(api.Grammar{Nons: 2}, productions(0, 2, 3), 3, hold)
	each(api.Grammar{Nons: 2}, productions(0, 2, 1), 6, hold)
	each(api.Grammar{Terms: 1, Nons: 3, Start: 2}, productions(1, 3, 1), 4, hold)
	each(api.Grammar{Nons: 3}, productions(0, 3, 2), 3, hold)
	g := grammar(4, "0: 1; 1: 2; 2: 3; 3: 0")
	each(g, productions(0, 4, 1), 6, hold)
	g.Prods = g.Prods[:1]
	each(g, productions(0, 4, 1), 4, hold)
	if grammars < 200000 {
		t.Errorf("%d grammars alone", grammars)
	}
	for many, least := range []int{100000, 100000, 10000, 500, 20} {
		if high[many] < least {
			t.Errorf("%d ways of %d steps: too few to show anything", high[many], many)
		}
	}
}

// places are those of so many productions, of so many symbols each, and around them.
func places(prods, dots int) []left.Step {
	var l []left.Step
	for prod := -1; prod <= prods; prod++ {
		for dot := -1; dot <= dots; dot++ {
			l = append(l, left.Step{Prod: prod, Dot: dot})
		}
	}
	return l
}

// P13.2, P13.3: all rows of up to so many places of small grammars, and around them, from and to each nonterminal, and around them; and who leads to itself by one is left-recursive.
func TestAllRows(t *testing.T) {
	yes, no := 0, 0
	hold := func(g api.Grammar, of []left.Step, most int) {
		may, set := nothings(g), left.Recursive(g)
		see := func(l []left.Step) bool {
			for from := -1; from <= g.Nons; from++ {
				for to := -1; to <= g.Nons; to++ {
					is := left.Leads(g, from, to, l)
					if is != isWay(g, may, from, to, l) {
						t.Fatalf("Leads(%v, %d, %d, %v): %v", g, from, to, l, is)
					}
					if is && from == to && set>>from&1 == 0 {
						t.Fatalf("Recursive(%v): %b, but %d leads to itself by %v", g, set, from, l)
					}
					if is {
						yes++
					} else {
						no++
					}
				}
			}
			return false
		}
		for many := range most + 1 {
			eachRow(of, nil, many, see)
		}
	}
	each(api.Grammar{Terms: 1, Nons: 1}, productions(1, 1, 2), 2, func(g api.Grammar) { hold(g, places(2, 2), 2) })
	each(api.Grammar{Terms: 1, Nons: 2}, productions(1, 2, 2), 2, func(g api.Grammar) { hold(g, places(2, 2), 2) })
	each(api.Grammar{Nons: 2}, productions(0, 2, 3), 2, func(g api.Grammar) { hold(g, allSteps(g, []bool{true, true}), 3) })
	each(api.Grammar{Nons: 3}, productions(0, 3, 1), 3, func(g api.Grammar) { hold(g, allSteps(g, nothings(g)), 4) })
	if yes < 20000 || no < 5000000 {
		t.Errorf("%d that lead, %d that don't: too few to show anything", yes, no)
	}
}

// text is a row of symbols: numbers for nonterminals, letters for terminals.
func text(l []api.Sym) string {
	var b strings.Builder
	for _, s := range l {
		if s.Non {
			b.WriteString(strconv.Itoa(s.N))
		} else {
			b.WriteByte(byte('a' + s.N))
		}
	}
	return b.String()
}

// comesFirst tells whether of a nonterminal, of which a production was taken, a row comes that begins with it: the leftmost place is taken by each production, and of a row as many symbols are kept as say where it goes on.
func comesFirst(g api.Grammar, non, keep int) bool {
	l, seen := []string{strconv.Itoa(non)}, map[string]bool{}
	for i := 0; i < len(l); i++ {
		if len(l[i]) == 0 {
			continue
		}
		for _, p := range g.Prods {
			if l[i][0] != byte('0'+p.Left) {
				continue
			}
			next := text(p.Right) + l[i][1:]
			next = next[:min(len(next), keep)]
			if strings.HasPrefix(next, l[0]) {
				return true
			}
			if !seen[next] {
				seen[next] = true
				l = append(l, next)
			}
		}
	}
	return false
}

// P13.1: those are left-recursive of which rows of symbols come that begin with themselves, and no others.
func TestRows(t *testing.T) {
	yes, no := 0, 0
	hold := func(g api.Grammar) {
		set := left.Recursive(g)
		for non := range g.Nons {
			is := comesFirst(g, non, 6) // of so few nonterminals as here, no more need be kept till what is nullable is gone
			if is != (set>>non&1 == 1) {
				t.Fatalf("Recursive(%v): %b, but of %d: %v", g, set, non, is)
			}
			if is {
				yes++
			} else {
				no++
			}
		}
	}
	each(api.Grammar{Terms: 2, Nons: 1}, productions(2, 1, 2), 3, hold)
	each(api.Grammar{Terms: 1, Nons: 2}, productions(1, 2, 2), 3, hold)
	each(api.Grammar{Terms: 1, Nons: 2}, productions(1, 2, 3), 2, hold)
	each(api.Grammar{Nons: 2}, productions(0, 2, 3), 3, hold)
	each(api.Grammar{Nons: 3}, productions(0, 3, 2), 3, hold)
	each(api.Grammar{Terms: 1, Nons: 3}, productions(1, 3, 1), 4, hold)
	if yes < 50000 || no < 50000 {
		t.Errorf("%d that are, %d that aren't: too few to show anything", yes, no)
	}
}

// by tells whether so many steps lead from a nonterminal to another one.
func by(g api.Grammar, of []left.Step, from, to, many int, known map[[3]int]bool) bool {
	if many == 0 {
		return from == to
	}
	at := [3]int{from, to, many}
	if is, ok := known[at]; ok {
		return is
	}
	known[at] = slices.ContainsFunc(of, func(s left.Step) bool {
		p := g.Prods[s.Prod]
		return p.Left == from && by(g, of, p.Right[s.Dot].N, to, many-1, known)
	})
	return known[at]
}

// worked is the way of a nonterminal: how many steps it has, and then step by step the least one from which as many lead on as are left.
func worked(g api.Grammar, of []left.Step, non int, known map[[3]int]bool) []left.Step {
	many := 1
	for !by(g, of, non, non, many, known) {
		if many++; many > g.Nons {
			return nil
		}
	}
	var l []left.Step
	for at := non; many > 0; many-- {
		i := slices.IndexFunc(of, func(s left.Step) bool {
			p := g.Prods[s.Prod]
			return p.Left == at && by(g, of, p.Right[s.Dot].N, non, many-1, known)
		})
		l = append(l, of[i])
		at = g.Prods[of[i].Prod].Right[of[i].Dot].N
	}
	return l
}

// anyOne is a grammar of any size, in which most productions lead to one of the next nonterminals, in some order, so that ways are long, and behind nullable ones.
func anyOne(r *rand.Rand) api.Grammar {
	g := api.Grammar{Terms: 1 + r.Intn(api.MostTerms), Nons: 1 + r.Intn(api.MostNons)}
	g.Start = r.Intn(g.Nons)
	names := r.Perm(g.Nons)
	wide, terms, none := 1+r.Intn(4), r.Intn(40), r.Intn(30)
	for i := range g.Nons + r.Intn(api.MostProds+1-g.Nons) {
		at := i
		if i >= g.Nons {
			at = r.Intn(g.Nons)
		}
		p := api.Prod{Left: names[at]}
		for range 1 + r.Intn(api.MostRight) {
			switch {
			case r.Intn(100) < none:
			case r.Intn(100) < terms:
				p.Right = append(p.Right, api.Sym{N: r.Intn(g.Terms)})
			case r.Intn(30) == 0:
				p.Right = append(p.Right, non(r.Intn(g.Nons)))
			default:
				p.Right = append(p.Right, non(names[(at+1+r.Intn(wide))%g.Nons]))
			}
		}
		if r.Intn(100) < none {
			p.Right = nil
		}
		g.Prods = append(g.Prods, p)
	}
	r.Shuffle(len(g.Prods), func(i, j int) { g.Prods[i], g.Prods[j] = g.Prods[j], g.Prods[i] })
	return g
}

// scratch changes a few of a row of steps.
func scratch(r *rand.Rand, of, l []left.Step) []left.Step {
	for range 1 + r.Intn(2) {
		i := r.Intn(len(l))
		switch r.Intn(7) {
		case 0:
			l[i].Prod += r.Intn(3) - 1
		case 1:
			l[i].Dot += r.Intn(3) - 1
		case 2:
			l[i] = of[r.Intn(len(of))]
		case 3:
			l = slices.Concat(l[i:], l[:i]) // from another nonterminal on, round to it
		case 4:
			l = slices.Repeat(l, 2)
		case 5:
			l = append(l, of[r.Intn(len(of))])
		default:
			l = slices.Concat(l[:i+1], l[i:])
		}
	}
	return l
}

// P13.1, P13.2, P13.3: any grammars, up to the limits; and what is told of them, changed at a few places.
func TestAny(t *testing.T) {
	r := rand.New(rand.NewSource(131))
	high, yes, no := map[int]int{}, 0, 0
	for range 3000 {
		g := anyOne(r)
		before, may := gram.Clone(g), nothings(g)
		of, known := allSteps(g, may), map[[3]int]bool{}
		for non, l := range follows(t, g, of) {
			if want := worked(g, of, non, known); !slices.Equal(l, want) {
				t.Fatalf("Way(%v, %d): %v, not %v", g, non, l, want)
			}
			high[len(l)]++
			if len(l) == 0 {
				continue
			}
			row := scratch(r, of, slices.Clone(l))
			for from := range g.Nons {
				is := left.Leads(g, from, non, row)
				if is != isWay(g, may, from, non, row) {
					t.Fatalf("Leads(%v, %d, %d, %v): %v", g, from, non, row, is)
				}
				if is {
					yes++
				} else {
					no++
				}
			}
		}
		if !gram.Same(g, before) {
			t.Fatalf("%v is changed to %v", before, g)
		}
	}
	if yes < 2000 || no < 10000 {
		t.Errorf("%d that lead, %d that don't: too few to show anything", yes, no)
	}
	for many := range 15 {
		if high[many] < 100 {
			t.Errorf("%d ways of %d steps: too few to show anything", high[many], many)
		}
	}
}
