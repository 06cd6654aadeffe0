package sound_test

import (
	"math/rand"
	"slices"
	"testing"

	"probate/api"
	"probate/gram"
	"probate/sound"
)

// What follows works out from the productions alone what is told of a grammar, and what follows of it.

// comes tells whether a word comes of a nonterminal, or nothing (if no terminal may stand), by a tree of so many levels at most.
func comes(g api.Grammar, non, levels int, terms bool, known map[[2]int]bool) bool {
	at := [2]int{non, levels}
	is, ok := known[at]
	if levels == 0 || ok {
		return is
	}
	is = slices.ContainsFunc(g.Prods, func(p api.Prod) bool {
		return p.Left == non && !slices.ContainsFunc(p.Right, func(s api.Sym) bool {
			return !s.Non && !terms || s.Non && !comes(g, s.N, levels-1, terms, known)
		})
	})
	known[at] = is
	return is
}

// allComes tells it of each nonterminal, by trees of any size: in the least one none stands below itself.
func allComes(g api.Grammar, terms bool) []bool {
	known := map[[2]int]bool{}
	l := make([]bool, g.Nons)
	for non := range l {
		l[non] = comes(g, non, g.Nons, terms, known)
	}
	return l
}

// pairs tells of each two nonterminals whether one leads to the other.
type pairs [api.MostNons][api.MostNons]bool

// lead tells who leads to whom by one production or more, at the places that count: those behind symbols that all may stand ahead.
func lead(g api.Grammar, ahead func(s api.Sym) bool) pairs {
	var to pairs
	for _, p := range g.Prods {
		for _, s := range p.Right {
			if s.Non {
				to[p.Left][s.N] = true
			}
			if !ahead(s) {
				break
			}
		}
	}
	for through := range g.Nons {
		for from := range g.Nons {
			for at := range g.Nons {
				if to[from][through] && to[through][at] {
					to[from][at] = true
				}
			}
		}
	}
	return to
}

// worked is what Check is to tell of a grammar that may be.
func worked(g api.Grammar) (int, api.Errno) {
	words, nothing := allComes(g, true), allComes(g, false)
	anywhere := lead(g, func(api.Sym) bool { return true })
	atLeft := lead(g, func(s api.Sym) bool { return s.Non && nothing[s.N] })
	for non := range g.Nons {
		if !words[non] {
			return non, api.ErrDead
		}
	}
	for non := range g.Nons {
		if non != g.Start && !anywhere[g.Start][non] {
			return non, api.ErrAlone
		}
	}
	for non := range g.Nons {
		if atLeft[non][non] {
			return non, api.ErrLeft
		}
	}
	return 0, api.OK
}

// holds holds what is told of a grammar against what was worked out, and tells it.
func holds(t *testing.T, g api.Grammar) api.Errno {
	t.Helper()
	non, e := sound.Check(g)
	if wantNon, want := worked(g); non != wantNon || e != want {
		t.Fatalf("Check(%v): %d, %v, not %d, %v", g, non, e, wantNon, want)
	}
	return e
}

// productions are all there are, of rights up to so many symbols.
func productions(terms, nons, most int) []api.Prod {
	var symbols []api.Sym
	for n := range terms {
		symbols = append(symbols, api.Sym{N: n})
	}
	for n := range nons {
		symbols = append(symbols, api.Sym{Non: true, N: n})
	}
	rights := [][]api.Sym{nil}
	for i := 0; i < len(rights); i++ {
		for _, s := range symbols {
			if len(rights[i]) < most {
				rights = append(rights, append(slices.Clone(rights[i]), s))
			}
		}
	}
	var l []api.Prod
	for n := range nons {
		for _, r := range rights {
			l = append(l, api.Prod{Left: n, Right: r})
		}
	}
	return l
}

// each goes through all grammars of up to so many of these productions, in order.
func each(g api.Grammar, of []api.Prod, most int, do func(g api.Grammar)) {
	do(g)
	if len(g.Prods) == most {
		return
	}
	for _, p := range of {
		with := g
		with.Prods = append(slices.Clip(g.Prods), p)
		each(with, of, most, do)
	}
}

// small goes through many small grammars, in order, each with each Start.
func small(do func(g api.Grammar)) {
	starts := func(g api.Grammar) {
		for g.Start = range g.Nons {
			do(g)
		}
	}
	each(api.Grammar{Terms: 2, Nons: 1}, productions(2, 1, 2), 3, starts)
	each(api.Grammar{Terms: 1, Nons: 1}, productions(1, 1, 3), 3, starts)
	each(api.Grammar{Terms: 1, Nons: 2}, productions(1, 2, 2), 3, starts)
	each(api.Grammar{Terms: 1, Nons: 2}, productions(1, 2, 3), 2, starts)
	each(api.Grammar{Nons: 2}, productions(0, 2, 3), 3, starts)
	each(api.Grammar{Terms: 1, Nons: 2}, productions(1, 2, 1), 5, starts)
	each(api.Grammar{Terms: 1, Nons: 3}, productions(1, 3, 1), 4, starts)
	each(api.Grammar{Nons: 3}, productions(0, 3, 2), 3, starts)
	three := grammar(3, "0: 1 2; 1: a; 2: a 1")
	three.Terms = 1
	each(three, productions(1, 3, 2), 5, starts)
	three = grammar(3, "0: 1 a 2; 1: 2; 2:")
	three.Terms = 1
	each(three, productions(1, 3, 2), 5, starts)
}

// P14.1, P14.2: what is told of small grammars, sound or not, is what was worked out; each kind of answer is there often enough.
func TestSmall(t *testing.T) {
	many := map[api.Errno]int{}
	small(func(g api.Grammar) { many[holds(t, g)]++ })
	for _, e := range []api.Errno{api.OK, api.ErrDead, api.ErrAlone, api.ErrLeft} {
		if many[e] < 4000 {
			t.Errorf("%d grammars with %v: too few to show anything", many[e], e)
		}
	}
}

// form is what is left to derive, the leftmost nonterminal first, and whether the production that is looked for stood there.
type form struct {
	left string
	has  bool
}

// derive tells a derivation of a word in which a production stands (of -1 any one), a shortest one, as long as no more than so many nonterminals are left anywhere: nil, if there is none.
func derive(g api.Grammar, with, most int) []int {
	type row struct {
		at    form
		prods []int
	}
	start := form{string(rune('0' + g.Start)), with < 0}
	rows, seen := []row{{at: start}}, map[form]bool{start: true}
	for i := 0; i < len(rows); i++ {
		at := rows[i].at
		if at.left == "" {
			if at.has {
				return rows[i].prods
			}
			continue
		}
		for n, p := range g.Prods {
			if p.Left != int(at.left[0]-'0') {
				continue
			}
			next := form{nons(p) + at.left[1:], at.has || n == with}
			if len(next.left) <= most && !seen[next] {
				seen[next] = true
				rows = append(rows, row{next, append(slices.Clip(rows[i].prods), n)})
			}
		}
	}
	return nil
}

// nons are a production's nonterminals, a digit each.
func nons(p api.Prod) string {
	text := ""
	for _, s := range p.Right {
		if s.Non {
			text += string(rune('0' + s.N))
		}
	}
	return text
}

// wordOf replays a derivation: each production takes the place of the leftmost nonterminal, and in the end terminals alone stand there.
func wordOf(g api.Grammar, l []int) ([]api.Sym, bool) {
	row := []api.Sym{{Non: true, N: g.Start}}
	for _, n := range l {
		at := slices.IndexFunc(row, func(s api.Sym) bool { return s.Non })
		if at < 0 || row[at].N != g.Prods[n].Left {
			return nil, false
		}
		row = slices.Concat(row[:at], g.Prods[n].Right, row[at+1:])
	}
	return row, !slices.ContainsFunc(row, func(s api.Sym) bool { return s.Non })
}

// shown holds that a derivation is one, that its production stands in it, and that what comes are terminals.
func shown(t *testing.T, g api.Grammar, with int) {
	t.Helper()
	l := derive(g, with, 16)
	if l == nil {
		t.Fatalf("%v is told to be sound, but no word comes of it with production %d", g, with)
	}
	w, is := wordOf(g, l)
	if !is || with >= 0 && !slices.Contains(l, with) {
		t.Fatalf("of %v: %v is no derivation with production %d: %v", g, l, with, w)
	}
}

// P14.2: of each sound grammar a word comes, and each production stands in a derivation of one.
func TestEachProduction(t *testing.T) {
	many, words := 0, 0
	small(func(g api.Grammar) {
		if non, e := sound.Check(g); non != 0 || e != api.OK {
			return
		}
		many++
		shown(t, g, -1)
		for with := range g.Prods {
			words++
			shown(t, g, with)
		}
	})
	if many < 4000 || words < 10000 {
		t.Errorf("%d sound grammars, of %d productions: too few to show anything", many, words)
	}
}

// P14.2: a nonterminal of which no word comes, or that isn't reached, stands in no derivation of a word; each other one does.
func TestEachNonterminal(t *testing.T) {
	yes, no := 0, 0
	hold := func(g api.Grammar) {
		_, e := sound.Check(g)
		is := e != api.ErrDead && e != api.ErrAlone
		all := true
		for non := range g.Nons {
			all = all && slices.ContainsFunc(gram.Of(g, non), func(with int) bool { return derive(g, with, 7) != nil })
		}
		if is != all {
			t.Fatalf("Check(%v): %v, but that each nonterminal stands in a derivation is %v", g, e, all)
		}
		if is {
			yes++
		} else {
			no++
		}
	}
	starts := func(g api.Grammar) {
		for g.Start = range g.Nons {
			hold(g)
		}
	}
	each(api.Grammar{Terms: 1, Nons: 1}, productions(1, 1, 2), 3, starts)
	each(api.Grammar{Terms: 1, Nons: 2}, productions(1, 2, 2), 3, starts)
	each(api.Grammar{Terms: 1, Nons: 3}, productions(1, 3, 1), 4, starts)
	if yes < 4000 || no < 20000 {
		t.Errorf("%d in which each does, %d in which one doesn't: too few to show anything", yes, no)
	}
}

// anyOne is a grammar of any size, in which most nonterminals have what makes them sound, and productions lead at the left to greater ones mostly, in some order.
func anyOne(r *rand.Rand) api.Grammar {
	g := api.Grammar{Terms: 1 + r.Intn(api.MostTerms), Nons: 1 + r.Intn(api.MostNons)}
	names := r.Perm(g.Nons)
	g.Start = names[0]
	dead, alone, back, none := r.Intn(2)*r.Intn(40), r.Intn(2)*r.Intn(40), r.Intn(2)*r.Intn(20), r.Intn(30)
	a := func() api.Sym { return api.Sym{N: r.Intn(g.Terms)} }
	later := func(at int) api.Sym { return api.Sym{Non: true, N: names[at+1+r.Intn(g.Nons-1-at)]} }
	for at := range g.Nons {
		if r.Intn(100) >= dead {
			g.Prods = append(g.Prods, api.Prod{Left: names[at], Right: []api.Sym{a()}})
		}
		if at > 0 && r.Intn(100) >= alone {
			g.Prods = append(g.Prods, api.Prod{Left: names[r.Intn(at)], Right: []api.Sym{{Non: true, N: names[at]}}})
		}
	}
	for range r.Intn(api.MostProds + 1 - len(g.Prods)) {
		at := r.Intn(g.Nons)
		p := api.Prod{Left: names[at]}
		for range r.Intn(api.MostRight + 1) {
			switch {
			case r.Intn(100) < none:
			case at < g.Nons-1 && r.Intn(3) > 0:
				p.Right = append(p.Right, later(at))
			case r.Intn(100) < back:
				p.Right = append(p.Right, api.Sym{Non: true, N: r.Intn(g.Nons)})
			default:
				p.Right = append(p.Right, a())
			}
		}
		g.Prods = append(g.Prods, p)
	}
	r.Shuffle(len(g.Prods), func(i, j int) { g.Prods[i], g.Prods[j] = g.Prods[j], g.Prods[i] })
	return g
}

// P14.1, P14.2: any grammars, up to the limits, and each of them with each Start.
func TestAny(t *testing.T) {
	r := rand.New(rand.NewSource(141))
	many := map[api.Errno]int{}
	for range 4000 {
		g := anyOne(r)
		before := gram.Clone(g)
		many[holds(t, g)]++
		if !gram.Same(g, before) {
			t.Fatalf("%v is changed to %v", before, g)
		}
		for g.Start = range g.Nons {
			holds(t, g)
		}
	}
	for _, e := range []api.Errno{api.OK, api.ErrDead, api.ErrAlone, api.ErrLeft} {
		if many[e] < 400 {
			t.Errorf("%d grammars with %v: too few to show anything", many[e], e)
		}
	}
}
