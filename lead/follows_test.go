package lead_test

import (
	"math/rand"
	"slices"
	"testing"

	"probate/api"
	"probate/gram"
	"probate/lead"
	"probate/sound"
	"probate/tree"
)

// productions are all there are, of rights up to so many symbols.
func productions(terms, nons, most int) []api.Prod {
	var symbols []api.Sym
	for n := range terms {
		symbols = append(symbols, api.Sym{N: n})
	}
	for n := range nons {
		symbols = append(symbols, api.Sym{Non: true, N: n})
	}
	rights := [][]api.Sym{nil}
	for i := 0; i < len(rights); i++ {
		for _, s := range symbols {
			if len(rights[i]) < most {
				rights = append(rights, append(slices.Clone(rights[i]), s))
			}
		}
	}
	var l []api.Prod
	for n := range nons {
		for _, r := range rights {
			l = append(l, api.Prod{Left: n, Right: r})
		}
	}
	return l
}

// grammars goes through all sound grammars of up to so many of these productions, in order, each with each Start.
func grammars(g api.Grammar, of []api.Prod, most int, do func(g api.Grammar)) {
	for g.Start = range g.Nons {
		if _, e := sound.Check(g); e == api.OK {
			do(g)
		}
	}
	g.Start = 0
	if len(g.Prods) == most {
		return
	}
	for _, p := range of {
		with := g
		with.Prods = append(slices.Clip(g.Prods), p)
		grammars(with, of, most, do)
	}
}

// words are all of up to so many tokens.
func words(terms, most int) [][]int {
	l := [][]int{nil}
	for i := 0; i < len(l); i++ {
		for n := range terms {
			if len(l[i]) < most {
				l = append(l, append(slices.Clone(l[i]), n))
			}
		}
	}
	return l
}

// seen counts words: of no derivation, of one, of several, and those that are no more than the beginning of one.
type seen struct{ grammars, none, one, several, only int }

// follows holds what is told of all words of up to so many tokens against all derivations of each.
func (s *seen) follows(t *testing.T, g api.Grammar, most int) {
	t.Helper()
	s.grammars++
	for _, w := range words(g.Terms, most) {
		all := derivations(g, w)
		least, e := lead.Lead(g, w, lead.Least)
		greatest, same := lead.Lead(g, w, lead.Greatest)
		if e != same || (e == api.OK) != (len(all) > 0) || e != api.OK && (e != api.ErrNone || least != nil || greatest != nil) {
			t.Fatalf("of %v, %v: %v, %v, %v, %v, but there are %d derivations", g, w, least, e, greatest, same, len(all))
		}
		for _, l := range all {
			if tree.Less(l, least) || tree.Less(greatest, l) {
				t.Fatalf("of %v, %v: %v isn't between %v and %v", g, w, l, least, greatest)
			}
		}
		if one := slices.Equal(least, greatest); len(all) > 0 && one != (len(all) == 1) {
			t.Fatalf("of %v, %v: %v, %v, but there are %d derivations", g, w, least, greatest, len(all))
		}
		switch len(all) {
		case 0:
			s.none++
		case 1:
			s.one++
		default:
			s.several++
		}
		if e == api.OK {
			derives(t, g, w, lead.Least, least)
			derives(t, g, w, lead.Greatest, greatest)
		}
		s.begins(t, g, w, e == api.OK)
	}
}

// begins holds what is told of a word for Begin; whether the word comes itself is known.
func (s *seen) begins(t *testing.T, g api.Grammar, w []int, comes bool) {
	t.Helper()
	own := beginning(g, w)
	l, e := lead.Lead(g, w, lead.Begin)
	if !slices.Equal(l, own) || (e == api.OK) != (own != nil) || e != api.OK && (e != api.ErrNone || l != nil) {
		t.Fatalf("Lead(%v, %v, Begin): %v, %v, but searched %v", g, w, l, e, own)
	}
	if e != api.OK && comes {
		t.Fatalf("%v comes of %v, but no word that begins with it", w, g)
	}
	if e == api.OK {
		derives(t, g, w, lead.Begin, l)
		if !comes {
			s.only++
		}
	}
}

// terms is a grammar of so many terminals.
func terms(many int, g api.Grammar) api.Grammar {
	g.Terms = many
	return g
}

// P17.1, P17.2: of small sound grammars, and all words up to some length.
func TestSmall(t *testing.T) {
	var s seen
	hold := func(most int) func(g api.Grammar) {
		return func(g api.Grammar) { s.follows(t, g, most) }
	}
	grammars(api.Grammar{Terms: 2, Nons: 1}, productions(2, 1, 2), 3, hold(4))
	grammars(api.Grammar{Terms: 1, Nons: 1}, productions(1, 1, 3), 3, hold(6))
	grammars(api.Grammar{Terms: 2, Nons: 1}, productions(2, 1, 3), 2, hold(5))
	grammars(api.Grammar{Terms: 1, Nons: 2}, productions(1, 2, 2), 3, hold(5))
	grammars(terms(1, of("0: 1 1; 1: a")), productions(1, 2, 2), 4, hold(5))
	grammars(terms(1, of("0: 1 1; 1: a; 1:")), productions(1, 2, 2), 5, hold(4))
	grammars(terms(2, of("0: a 1; 1: b")), productions(2, 2, 2), 4, hold(4))
	grammars(terms(2, of("0: 1 b 1; 1:")), productions(2, 2, 2), 4, hold(4))
	grammars(terms(2, of("0: 1 2; 1: a; 2: b; 2:")), productions(2, 3, 1), 6, hold(4))
	grammars(terms(1, of("0: 1 a 2; 1: 2; 2:")), productions(1, 3, 2), 5, hold(5))
	grammars(terms(1, of("2: a 1; 1: 0 0; 0: a")), productions(1, 3, 2), 5, hold(5))
	grammars(of("0: 1 2; 1:; 2:"), productions(0, 3, 2), 5, hold(0))
	if s.grammars < 8000 || s.none < 20000 || s.one < 20000 || s.several < 10000 || s.only < 20000 {
		t.Errorf("%+v: too few to show anything", s)
	}
}

// anyOne is a grammar of any size, sound mostly: the first productions are one of no nonterminals for each nonterminal; each is led to by one that is ahead of it in some order; and all stand in any order in the end.
func anyOne(r *rand.Rand) api.Grammar {
	g := api.Grammar{Terms: 1 + r.Intn(api.MostTerms), Nons: 1 + r.Intn(api.MostNons)}
	if r.Intn(3) > 0 {
		g.Terms = 1 + r.Intn(3)
	}
	names := r.Perm(g.Nons)
	g.Start = names[0]
	for non := range g.Nons {
		p := api.Prod{Left: non}
		for range r.Intn(3) {
			p.Right = append(p.Right, api.Sym{N: r.Intn(g.Terms)})
		}
		g.Prods = append(g.Prods, p)
	}
	for to := 1; to < g.Nons; to++ {
		at := r.Intn(to)
		right := anyRight(r, g, names[at+1:], r.Intn(api.MostRight))
		right = slices.Insert(right, r.Intn(len(right)+1), api.Sym{Non: true, N: names[to]})
		g.Prods = append(g.Prods, api.Prod{Left: names[at], Right: right})
	}
	for range r.Intn(api.MostProds + 1 - len(g.Prods)) {
		at := r.Intn(g.Nons)
		right := anyRight(r, g, names[at+1:], r.Intn(api.MostRight+1))
		g.Prods = append(g.Prods, api.Prod{Left: names[at], Right: right})
	}
	r.Shuffle(len(g.Prods), func(i, k int) { g.Prods[i], g.Prods[k] = g.Prods[k], g.Prods[i] })
	return g
}

// anyRight are so many symbols. Ahead of the first terminal stand some nonterminals alone, and mostly behind nonterminals, too.
func anyRight(r *rand.Rand, g api.Grammar, ahead []int, many int) []api.Sym {
	var l []api.Sym
	for free := false; len(l) < many; {
		switch {
		case r.Intn(2) == 0 || !free && len(ahead) == 0:
			l = append(l, api.Sym{N: r.Intn(g.Terms)})
			free = true
		case free:
			l = append(l, api.Sym{Non: true, N: r.Intn(g.Nons)})
		default:
			l = append(l, api.Sym{Non: true, N: ahead[r.Intn(len(ahead))]})
			free = r.Intn(50) == 0
		}
	}
	return l
}

// anyWord comes of a grammar that anyOne made, by any productions first, and by those of no nonterminals then.
func anyWord(r *rand.Rand, g api.Grammar) []int {
	w, steps := []int{}, r.Intn(40)
	for left := []api.Sym{{Non: true, N: g.Start}}; len(left) > 0; {
		s := left[0]
		left = left[1:]
		if !s.Non {
			w = append(w, s.N)
			continue
		}
		of := gram.Of(g, s.N)
		by := of[r.Intn(len(of))]
		if steps--; steps < 0 {
			by = of[slices.IndexFunc(of, func(i int) bool {
				return !slices.ContainsFunc(g.Prods[i].Right, func(s api.Sym) bool { return s.Non })
			})]
		}
		left = slices.Concat(g.Prods[by].Right, left)
	}
	return w
}

// P17.1, P17.2: any sound grammars, up to the limits; words that come of them, that are beginnings of such, and that are changed: in each kind what is told is what is worked out.
func TestAny(t *testing.T) {
	r := rand.New(rand.NewSource(171))
	many, several, told := 0, 0, map[api.Errno]int{}
	for range 300 {
		g := anyOne(r)
		if _, e := sound.Check(g); e != api.OK {
			continue
		}
		many++
		w := anyWord(r, g)
		w = w[:min(len(w), api.MostWord)]
		if r.Intn(2) == 0 {
			w = w[:r.Intn(len(w)+1)]
		}
		for range 2 {
			var lists [][]int
			for _, kind := range kinds {
				own, e := byParts(g, w, kind)
				holds(t, g, w, kind, own, e)
				told[e]++
				lists = append(lists, own)
			}
			if !slices.Equal(lists[0], lists[1]) {
				several++
			}
			if len(w) > 0 {
				w[r.Intn(len(w))] = r.Intn(g.Terms)
			}
		}
	}
	if many < 250 || several < 100 || told[api.OK] < 700 || told[api.ErrNone] < 300 {
		t.Errorf("%d grammars, %d words of several derivations, told are %v: too few to show anything", many, several, told)
	}
}
