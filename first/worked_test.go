package first_test

import (
	"math/rand"
	"slices"
	"testing"

	"probate/api"
	"probate/first"
	"probate/gram"
)

// What follows works out sets a second time, from each nonterminal on to the terminals that stand where all ahead may be nothing; and once more the words themselves.

// nothing tells whether nothing comes of a nonterminal by a tree of so many levels at most.
func nothing(g api.Grammar, non, levels int, known map[[2]int]bool) bool {
	at := [2]int{non, levels}
	is, ok := known[at]
	if levels == 0 || ok {
		return is
	}
	is = slices.ContainsFunc(g.Prods, func(p api.Prod) bool {
		return p.Left == non && !slices.ContainsFunc(p.Right, func(s api.Sym) bool {
			return !s.Non || !nothing(g, s.N, levels-1, known)
		})
	})
	known[at] = is
	return is
}

// nothings tells it of each nonterminal, by trees of any size: in the least one none stands below itself.
func nothings(g api.Grammar) []bool {
	known := map[[2]int]bool{}
	l := make([]bool, g.Nons)
	for non := range l {
		l[non] = nothing(g, non, g.Nons, known)
	}
	return l
}

// fronts are the symbols that stand where all ahead may be nothing, and whether all of them may.
func fronts(of []api.Sym, may []bool) ([]api.Sym, bool) {
	for i, s := range of {
		if !s.Non || !may[s.N] {
			return of[:i+1], false
		}
	}
	return of, true
}

// walk puts into a set the terminals to which symbols lead at their front, through nonterminals that were not seen.
func walk(g api.Grammar, of []api.Sym, may, seen []bool, set *uint32) {
	front, _ := fronts(of, may)
	for _, s := range front {
		if !s.Non {
			*set |= 1 << s.N
			continue
		}
		if seen[s.N] {
			continue
		}
		seen[s.N] = true
		for _, i := range gram.Of(g, s.N) {
			walk(g, g.Prods[i].Right, may, seen, set)
		}
	}
}

// workedOf is what is told of symbols.
func workedOf(g api.Grammar, of []api.Sym, may []bool) (uint32, bool) {
	set := uint32(0)
	walk(g, of, may, make([]bool, g.Nons), &set)
	_, all := fronts(of, may)
	return set, all
}

// worked are the sets of a grammar.
func worked(g api.Grammar, may []bool) []uint32 {
	l := make([]uint32, g.Nons)
	for non := range l {
		l[non], _ = workedOf(g, []api.Sym{{Non: true, N: non}}, may)
	}
	return l
}

// stand tells whether sets have all that the chapter's words put into them.
func stand(g api.Grammar, l []uint32, may []bool) bool {
	for _, p := range g.Prods {
		front, _ := fronts(p.Right, may)
		for _, s := range front {
			in := uint32(1) << s.N
			if s.Non {
				in = l[s.N]
			}
			if in&^l[p.Left] != 0 {
				return false
			}
		}
	}
	return true
}

// holds holds what is told of a grammar against what was worked out, and that it is what the productions' symbols begin with, put together, of terminals alone.
func holds(t *testing.T, g api.Grammar) {
	t.Helper()
	may := nothings(g)
	l := first.First(g)
	if want := worked(g, may); !slices.Equal(l, want) {
		t.Fatalf("First(%v): %b, not %b", g, l, want)
	}
	if !stand(g, l, may) {
		t.Fatalf("First(%v): %b lacks something", g, l)
	}
	for non, set := range l {
		sum, all := uint32(0), false
		for _, i := range gram.Of(g, non) {
			of, is := first.Of(g, g.Prods[i].Right)
			sum |= of
			all = all || is
		}
		if sum != set || set>>g.Terms != 0 {
			t.Fatalf("First(%v): %b of %d, and %b of its productions", g, set, non, sum)
		}
		if of, is := first.Of(g, []api.Sym{{Non: true, N: non}}); of != set || is != all || is != may[non] {
			t.Fatalf("of %v: Of %d %b %v, and %b %v of its productions", g, non, of, is, sum, all)
		}
	}
}

// isLeast holds that no sets that have all that must be lack anything of those that are told.
func isLeast(t *testing.T, g api.Grammar) {
	t.Helper()
	may := nothings(g)
	told := first.First(g)
	l := make([]uint32, g.Nons)
	for bits := range uint32(1) << (g.Nons * g.Terms) {
		for non := range l {
			l[non] = bits >> (non * g.Terms) & (1<<g.Terms - 1)
		}
		if !stand(g, l, may) {
			continue
		}
		for non := range l {
			if told[non]&^l[non] != 0 {
				t.Fatalf("First(%v): %b, but %b are enough", g, told, l)
			}
		}
	}
}

// rows are all words of one of each of these lists, one behind the other, of so many tokens at most.
func rows(lists []map[string]bool, most int) map[string]bool {
	l := map[string]bool{"": true}
	for _, of := range lists {
		next := map[string]bool{}
		for ahead := range l {
			for w := range of {
				if len(ahead+w) <= most {
					next[ahead+w] = true
				}
			}
		}
		l = next
	}
	return l
}

// words are all of so many tokens at most that come of each nonterminal through words that are no longer: its productions are gone through till no word is new.
func words(g api.Grammar, most int) []map[string]bool {
	l := make([]map[string]bool, g.Nons)
	for non := range l {
		l[non] = map[string]bool{}
	}
	for grown := true; grown; {
		grown = false
		for _, p := range g.Prods {
			var lists []map[string]bool
			for _, s := range p.Right {
				if s.Non {
					lists = append(lists, l[s.N])
				} else {
					lists = append(lists, map[string]bool{string(rune('a' + s.N)): true})
				}
			}
			for w := range rows(lists, most) {
				grown = grown || !l[p.Left][w]
				l[p.Left][w] = true
			}
		}
	}
	return l
}

// begun holds that with what words begin is in the sets, and tells how many terminals there are in the sets, and with how many of them a word begins.
func begun(t *testing.T, g api.Grammar, most int) (int, int) {
	t.Helper()
	told := first.First(g)
	all, shown := 0, 0
	for non, of := range words(g, most) {
		seen := uint32(0)
		for w := range of {
			if w == "" {
				if _, is := first.Of(g, []api.Sym{{Non: true, N: non}}); !is {
					t.Fatalf("of %v nothing may come of %d", g, non)
				}
				continue
			}
			if seen |= set(w[:1]); seen&^told[non] != 0 {
				t.Fatalf("First(%v): %b, but %s comes of %d", g, told, w, non)
			}
		}
		for n := range g.Terms {
			all += int(told[non] >> n & 1)
			shown += int(seen >> n & 1)
		}
	}
	return all, shown
}

// alphabet are the symbols of so many terminals and nonterminals.
func alphabet(terms, nons int) []api.Sym {
	var l []api.Sym
	for n := range terms {
		l = append(l, api.Sym{N: n})
	}
	for n := range nons {
		l = append(l, api.Sym{Non: true, N: n})
	}
	return l
}

// rights are all rows of these symbols, up to so many.
func rights(of []api.Sym, most int) [][]api.Sym {
	l := [][]api.Sym{nil}
	for i := 0; i < len(l); i++ {
		for _, s := range of {
			if len(l[i]) < most {
				l = append(l, append(slices.Clone(l[i]), s))
			}
		}
	}
	return l
}

// productions are all there are, of rights up to so many symbols.
func productions(terms, nons, most int) []api.Prod {
	var l []api.Prod
	for n := range nons {
		for _, r := range rights(alphabet(terms, nons), most) {
			l = append(l, api.Prod{Left: n, Right: r})
		}
	}
	return l
}

// each goes through all grammars of up to so many of these productions, in order.
func each(g api.Grammar, of []api.Prod, most int, do func(g api.Grammar)) {
	do(g)
	if len(g.Prods) == most {
		return
	}
	for _, p := range of {
		with := g
		with.Prods = append(slices.Clip(g.Prods), p)
		each(with, of, most, do)
	}
}

// P11.1, P11.2: all small grammars, their productions in each order.
func TestSmall(t *testing.T) {
	many := 0
	count := func(g api.Grammar) {
		many++
		holds(t, g)
	}
	each(api.Grammar{Terms: 2, Nons: 1}, productions(2, 1, 2), 4, count)
	each(api.Grammar{Terms: 1, Nons: 2}, productions(1, 2, 2), 3, count)
	each(api.Grammar{Terms: 2, Nons: 2}, productions(2, 2, 2), 3, count)
	each(api.Grammar{Terms: 1, Nons: 3}, productions(1, 3, 1), 4, count)
	each(api.Grammar{Terms: 2, Nons: 2}, productions(2, 2, 1), 4, count)
	each(api.Grammar{Nons: 2}, productions(0, 2, 2), 3, count)
	if many < 180000 {
		t.Errorf("%d grammars alone", many)
	}
}

// P11.2: just so much as must be: of no set a terminal may be left out.
func TestLeast(t *testing.T) {
	least := func(g api.Grammar) { isLeast(t, g) }
	each(api.Grammar{Terms: 2, Nons: 1}, productions(2, 1, 2), 3, least)
	each(api.Grammar{Terms: 1, Nons: 2}, productions(1, 2, 2), 3, least)
	each(api.Grammar{Terms: 2, Nons: 2}, productions(2, 2, 2), 3, least)
	each(api.Grammar{Terms: 1, Nons: 3}, productions(1, 3, 1), 4, least)
	each(api.Grammar{Terms: 2, Nons: 2}, productions(2, 2, 1), 3, least)
}

// P11.2: with what a word that comes of a nonterminal begins is in its set; and with most of what is there some short word does.
func TestWords(t *testing.T) {
	all, shown := 0, 0
	count := func(g api.Grammar) {
		a, s := begun(t, g, 3)
		all, shown = all+a, shown+s
	}
	each(api.Grammar{Terms: 2, Nons: 1}, productions(2, 1, 2), 3, count)
	each(api.Grammar{Terms: 1, Nons: 2}, productions(1, 2, 2), 3, count)
	each(api.Grammar{Terms: 2, Nons: 2}, productions(2, 2, 2), 3, count)
	each(api.Grammar{Terms: 1, Nons: 3}, productions(1, 3, 1), 3, count)
	each(api.Grammar{Terms: 3, Nons: 2}, productions(3, 2, 1), 3, count)
	if shown < 50000 || all-shown > shown || shown == all {
		t.Errorf("words begin with %d terminals of %d alone", shown, all)
	}
}

// P11.1: all short rows of symbols, of small grammars.
func TestSmallRows(t *testing.T) {
	hold := func(g api.Grammar, of [][]api.Sym) {
		may := nothings(g)
		for _, l := range of {
			want, all := workedOf(g, l, may)
			if got, is := first.Of(g, l); got != want || is != all {
				t.Fatalf("Of(%v, %v): %b, %v, not %b, %v", g, l, got, is, want, all)
			}
		}
	}
	two, three := rights(alphabet(2, 2), 4), rights(alphabet(2, 3), 3)
	each(api.Grammar{Terms: 2, Nons: 2}, productions(2, 2, 1), 3, func(g api.Grammar) { hold(g, two) })
	each(api.Grammar{Terms: 2, Nons: 3}, productions(2, 3, 1), 2, func(g api.Grammar) { hold(g, three) })
	each(api.Grammar{Terms: 2, Nons: 2}, productions(2, 2, 2), 1, func(g api.Grammar) { hold(g, two) })
}

// anyRow are symbols of any number up to so many; so many of a hundred are terminals.
func anyRow(r *rand.Rand, g api.Grammar, most, terms int) []api.Sym {
	var l []api.Sym
	for range r.Intn(most + 1) {
		if g.Terms > 0 && r.Intn(100) < terms {
			l = append(l, api.Sym{N: r.Intn(g.Terms)})
		} else {
			l = append(l, api.Sym{Non: true, N: r.Intn(g.Nons)})
		}
	}
	return l
}

// anyOne is a grammar of any size, of which many nonterminals are nullable, or few.
func anyOne(r *rand.Rand) (api.Grammar, int) {
	g := api.Grammar{Terms: r.Intn(api.MostTerms + 1), Nons: 1 + r.Intn(api.MostNons)}
	g.Start = r.Intn(g.Nons)
	terms, none := 5+r.Intn(60), r.Intn(40)
	for range r.Intn(api.MostProds + 1) {
		p := api.Prod{Left: r.Intn(g.Nons)}
		if r.Intn(100) >= none {
			p.Right = anyRow(r, g, 1+r.Intn(api.MostRight), terms)
		}
		g.Prods = append(g.Prods, p)
	}
	return g, terms
}

// P11.1, P11.2: any grammars, and any symbols, up to the limits; and symbols, one of which is none of the grammar's.
func TestAny(t *testing.T) {
	r := rand.New(rand.NewSource(111))
	full, empty, yes, no := 0, 0, 0, 0
	for range 6000 {
		g, terms := anyOne(r)
		holds(t, g)
		may := nothings(g)
		for _, set := range worked(g, may) {
			if set == 0 {
				empty++
			} else if set&(set-1) != 0 {
				full++
			}
		}
		for range 10 {
			l := anyRow(r, g, 1+r.Intn(12), terms)
			want, all := workedOf(g, l, may)
			if got, is := first.Of(g, l); got != want || is != all {
				t.Fatalf("Of(%v, %v): %b, %v, not %b, %v", g, l, got, is, want, all)
			}
			if all {
				yes++
			} else {
				no++
			}
			alien := api.Sym{Non: r.Intn(2) == 0, N: -1}
			if r.Intn(2) == 0 && alien.Non {
				alien.N = g.Nons
			} else if r.Intn(2) == 0 {
				alien.N = max(g.Nons, g.Terms)
			}
			l = slices.Insert(l, r.Intn(len(l)+1), alien)
			if got, is := first.Of(g, l); got != 0 || is {
				t.Fatalf("Of(%v, %v): %b, %v", g, l, got, is)
			}
		}
	}
	for what, n := range map[string]int{"of several terminals": full, "that are empty": empty} {
		if n < 10000 {
			t.Errorf("%d sets %s: too few to show anything", n, what)
		}
	}
	if yes < 5000 || no < 20000 {
		t.Errorf("%d rows that are nullable, %d that are not: too few to show anything", yes, no)
	}
}
