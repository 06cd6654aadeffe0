package closed_test

import (
	"math/rand"
	"slices"
	"testing"

	"probate/api"
	"probate/chart"
	"probate/closed"
	"probate/gram"
	"probate/sound"
)

// What follows works out from the productions alone which words come, and holds what is told of sets against that.

// languages are, of each nonterminal, the words that come of it, each cut behind so many tokens: words of symbols are put together, till nothing is new.
func languages(g api.Grammar, most int) []map[string]bool {
	l := make([]map[string]bool, g.Nons)
	for non := range l {
		l[non] = map[string]bool{}
	}
	for grown := true; grown; {
		grown = false
		for _, p := range g.Prods {
			for w := range together(l, p.Right, most) {
				grown = grown || !l[p.Left][w]
				l[p.Left][w] = true
			}
		}
	}
	return l
}

// together are the words of symbols, one behind the other, as far as they are known.
func together(l []map[string]bool, symbols []api.Sym, most int) map[string]bool {
	words := map[string]bool{"": true}
	for _, s := range symbols {
		of := map[string]bool{string(rune('a' + s.N)): true}
		if s.Non {
			of = l[s.N]
		}
		next := map[string]bool{}
		for ahead := range words {
			for behind := range of {
				w := ahead + behind
				next[w[:min(len(w), most)]] = true
			}
		}
		words = next
	}
	return words
}

// known is which words come of a grammar, and which begin such words. Only words of fewer tokens than all were cut behind are asked for.
type known struct{ comes, begins map[string]bool }

func know(g api.Grammar, most int) known {
	k := known{languages(g, most)[g.Start], map[string]bool{}}
	for w := range k.comes {
		for many := range len(w) + 1 {
			k.begins[w[:many]] = true
		}
	}
	return k
}

// nextBy is what is next at items that may stand there: of terminals, and whether the end is.
func nextBy(g api.Grammar, set []api.Item) (map[int]bool, bool) {
	tokens, end := map[int]bool{}, false
	for _, it := range set {
		p := g.Prods[it.Prod]
		switch {
		case it.Dot == len(p.Right):
			end = end || p.Left == g.Start && it.From == 0
		case !p.Right[it.Dot].Non:
			tokens[p.Right[it.Dot].N] = true
		}
	}
	return tokens, end
}

// counted are grammars, words, and what was told of them.
type counted struct {
	grammars, words, only, several, none     int
	more, aloneWith, notWith, shorter, ruled int
}

// follows holds what follows of all words of up to so many tokens: of the sets of chapter 18, of their beginnings, and of some that have more.
func (c *counted) follows(t *testing.T, r *rand.Rand, g api.Grammar, most, times int) {
	t.Helper()
	c.grammars++
	k := know(g, most+2)
	all := words(g.Terms, most)
	var others [][]int // derivations of other words
	for _, text := range all {
		w, sets := letters(text), chart.Sets(g, letters(text))
		c.words++
		for many := 1; many <= len(sets); many++ {
			if !closed.Closed(g, w, sets[:many]) {
				t.Fatalf("of %v, %s, %v: the first %d aren't closed", g, text, sets, many)
			}
			c.rules(t, g, &k, text, sets[:many])
		}
		ders := derivations(g, w)
		if len(ders) > 0 != k.comes[text] {
			t.Fatalf("of %v, %s: %v", g, text, ders)
		}
		c.derivations(t, g, text, sets, ders)
		for _, l := range others {
			if closed.Alone(g, w, sets, l) {
				t.Fatalf("of %v, %s: %v is alone", g, text, l)
			}
		}
		for range times {
			c.withMore(t, r, g, &k, text, sets, ders, others)
		}
		if others = append(others, ders...); len(others) > 10 {
			others = others[len(others)-10:]
		}
	}
}

// derivations holds that the only one is alone in the sets of chapter 18, and that none of several is.
func (c *counted) derivations(t *testing.T, g api.Grammar, w string, sets [][]api.Item, ders [][]int) {
	t.Helper()
	for _, l := range ders {
		if closed.Alone(g, letters(w), sets, l) != (len(ders) == 1) {
			t.Fatalf("of %v, %s, with %d derivations: that %v is alone is %v", g, w, len(ders), l, len(ders) > 1)
		}
	}
	switch len(ders) {
	case 0:
		c.none++
	case 1:
		c.only++
	default:
		c.several++
	}
}

// rules holds that what isn't next at the last of closed sets may not stand there.
func (c *counted) rules(t *testing.T, g api.Grammar, k *known, w string, sets [][]api.Item) {
	t.Helper()
	ahead := w[:len(sets)-1]
	tokens, end := nextBy(g, sets[len(sets)-1])
	for tok := range g.Terms {
		if !tokens[tok] {
			if c.ruled++; k.begins[ahead+string(rune('a'+tok))] {
				t.Fatalf("of %v, %s: behind %s may stand %d, but it isn't next at %v", g, w, ahead, tok, sets)
			}
		}
	}
	if !end {
		if c.ruled++; k.comes[ahead] {
			t.Fatalf("of %v, %s: %s comes, but the end isn't next at %v", g, w, ahead, sets)
		}
	}
	for _, tok := range []int{-1, g.Terms, g.Terms + 1} {
		if tokens[tok] {
			t.Fatalf("%d is next at %v", tok, sets)
		}
	}
}

// withMore puts some items into the sets of chapter 18, or into a beginning of them, and all that follows from these, in any order, and holds what follows.
func (c *counted) withMore(t *testing.T, r *rand.Rand, g api.Grammar, k *known, w string, sets [][]api.Item, ders, others [][]int) {
	t.Helper()
	many := len(sets)
	if r.Intn(3) == 0 {
		many = 1 + r.Intn(many)
	}
	more := copied(sets[:many])
	for range 1 + r.Intn(4) {
		at := r.Intn(many)
		prod := r.Intn(len(g.Prods))
		it := item(prod, r.Intn(len(g.Prods[prod].Right)+1), r.Intn(at+1))
		if r.Intn(2) == 0 {
			it.Dot = len(g.Prods[prod].Right)
		}
		more[at] = append(more[at], it)
	}
	if is := closed.Closed(g, letters(w), more); is != (len(faults(g, letters(w), more)) == 0) {
		t.Fatalf("Closed(%v, %s, %v): %v", g, w, more, is)
	}
	more = grown(g, letters(w), more)
	for at := range more {
		r.Shuffle(len(more[at]), func(i, k int) { more[at][i], more[at][k] = more[at][k], more[at][i] })
	}
	if !closed.Closed(g, letters(w), more) {
		t.Fatalf("of %v, %s: %v isn't closed", g, w, more)
	}
	c.more++
	c.rules(t, g, k, w, more)
	for at, set := range sets[:many] {
		for _, it := range set {
			if closed.Closed(g, letters(w), without(more, at, it)) {
				t.Fatalf("of %v, %s: closed without %v at %d, of %v", g, w, it, at, more)
			}
		}
	}
	c.inMore(t, g, w, more, ders, others)
}

// inMore holds that a derivation that is alone in closed sets is the word's only one.
func (c *counted) inMore(t *testing.T, g api.Grammar, w string, sets [][]api.Item, ders, others [][]int) {
	t.Helper()
	if len(sets) <= len(w) {
		c.shorter++
	}
	for _, l := range slices.Concat(ders, others) {
		is := closed.Alone(g, letters(w), sets, l)
		if is != (len(doubts(g, letters(w), sets, l)) == 0) {
			t.Fatalf("Alone(%v, %s, %v, %v): %v", g, w, sets, l, is)
		}
		switch {
		case is && (len(ders) != 1 || !slices.Equal(l, ders[0])):
			t.Fatalf("of %v, %s: %v is alone in %v, but there are %v", g, w, l, sets, ders)
		case is:
			c.aloneWith++
		case len(ders) == 1 && slices.Equal(l, ders[0]) && len(sets) > len(w):
			c.notWith++
		}
	}
}

// productions are all there are, of rights up to so many symbols.
func productions(terms, nons, most int) []api.Prod {
	var symbols []api.Sym
	for n := range terms {
		symbols = append(symbols, api.Sym{N: n})
	}
	for n := range nons {
		symbols = append(symbols, api.Sym{Non: true, N: n})
	}
	rights := [][]api.Sym{nil}
	for i := 0; i < len(rights); i++ {
		for _, s := range symbols {
			if len(rights[i]) < most {
				rights = append(rights, append(slices.Clone(rights[i]), s))
			}
		}
	}
	var l []api.Prod
	for n := range nons {
		for _, r := range rights {
			l = append(l, api.Prod{Left: n, Right: r})
		}
	}
	return l
}

// grammars goes through all sound grammars of up to so many of these productions, in order, each with each Start.
func grammars(g api.Grammar, of []api.Prod, most int, do func(g api.Grammar)) {
	for g.Start = range g.Nons {
		if _, e := sound.Check(g); e == api.OK {
			do(g)
		}
	}
	g.Start = 0
	if len(g.Prods) == most {
		return
	}
	for _, p := range of {
		with := g
		with.Prods = append(slices.Clip(g.Prods), p)
		grammars(with, of, most, do)
	}
}

// P19.1, P19.2: of small sound grammars, gone through in order, and all words up to some length.
func TestSmall(t *testing.T) {
	var c counted
	r := rand.New(rand.NewSource(192))
	hold := func(most int) func(g api.Grammar) {
		return func(g api.Grammar) { c.follows(t, r, g, most, 1) }
	}
	grammars(api.Grammar{Terms: 2, Nons: 1}, productions(2, 1, 2), 3, hold(3))
	grammars(api.Grammar{Terms: 1, Nons: 1}, productions(1, 1, 3), 3, hold(4))
	grammars(api.Grammar{Terms: 2, Nons: 1}, productions(2, 1, 3), 2, hold(4))
	grammars(api.Grammar{Terms: 1, Nons: 2}, productions(1, 2, 2), 3, hold(3))
	grammars(terms(1, of("0: 1 1; 1: a")), productions(1, 2, 2), 4, hold(3))
	grammars(terms(1, of("0: 1 1; 1: a; 1:")), productions(1, 2, 2), 4, hold(3))
	grammars(terms(2, of("0: a 1; 1: b")), productions(2, 2, 2), 3, hold(3))
	grammars(terms(2, of("0: 1 b 1; 1:")), productions(2, 2, 2), 3, hold(3))
	grammars(terms(2, of("0: 1 2; 1: a; 2: b; 2:")), productions(2, 3, 1), 5, hold(3))
	grammars(terms(1, of("0: 1 a 2; 1: 2; 2:")), productions(1, 3, 2), 4, hold(3))
	grammars(terms(1, of("2: a 1; 1: 0 0; 0: a")), productions(1, 3, 2), 4, hold(4))
	grammars(of("0: 1 2; 1:; 2:"), productions(0, 3, 2), 5, hold(0))
	if c.grammars < 3000 || c.only < 3000 || c.several < 2000 || c.none < 5000 || c.aloneWith < 1000 || c.notWith < 300 || c.shorter < 3000 || c.ruled < 50000 {
		t.Errorf("%+v: too few to show anything", c)
	}
}

// P19.1, P19.2: some grammars, with longer words, and many items more.
func TestSome(t *testing.T) {
	var c counted
	r := rand.New(rand.NewSource(193))
	for _, g := range []api.Grammar{
		of("0: a 0 b; 0:"), of("0: a 0; 0: b 0; 0:"), of("0: 1 2 1; 1: a; 1:; 2: b; 2:"), of("0: a 0 b 0; 0:"), of("0: 1 b 1; 1: a 1; 1:"),
		of("0: 1 2; 0: 2 1; 1: a; 1: a b; 2: b; 2: b a 2"), of("0: 1 1 1; 1: 2 b 2; 2: a; 2:"), of("0: a 1; 1: 2 0; 1:; 2: b; 2: 3; 3:"), from(1, of("0: a; 1: b 0; 1: 0 1")),
	} {
		c.follows(t, r, terms(2, g), 5, 8)
	}
	for _, g := range []api.Grammar{of("0: 1 c; 1: a; 1: b; 1:"), of("0: a 0 c; 0: b; 0: c 1; 1: b 1; 1:"), of("0: 1 2 3; 1: a; 1:; 2: b; 2:; 3: c; 3: 2 1")} {
		c.follows(t, r, terms(3, g), 4, 8)
	}
	if c.only < 100 || c.several < 10 || c.none < 300 || c.aloneWith < 300 || c.notWith < 100 || c.shorter < 500 || c.ruled < 5000 {
		t.Errorf("%+v: too few to show anything", c)
	}
}

// P19.1, P19.2: all sets there are of some grammars and words: those that are closed have the least ones' items, and what is alone in them is the only derivation.
func TestAllSets(t *testing.T) {
	var c allSets
	for _, one := range []struct {
		text, w string
		sets    int
		only    string
	}{
		{"0: a", "a", 2, "0"}, {"0: a", "b", 2, ""}, {"0: a", "", 1, ""}, {"0: a; 0:", "a", 2, "0"}, {"0: a; 0:", "", 1, "1"}, {"0: a; 0: a", "a", 2, ""}, {"0: 1; 1: a", "a", 2, "0 1"},
		{"0: 1 1; 1:", "", 1, "0 1 1"}, {"0: 1; 1:; 1: a", "", 1, "0 1"}, {"0: 1 1; 1:; 1:", "", 1, ""}, {"0: a a", "aa", 2, "0"}, {"0: a 0; 0:", "a", 2, "0 1"},
		{"0: 0; 0: a", "a", 2, ""}, {"0: 0 0; 0:", "", 1, ""}, {"0: 1 2; 1:; 2:", "", 1, "0 1 2"}, {"0: a 1; 1:", "a", 2, "0 1"}, {"0: 1 a; 1:", "a", 2, "0 1"}, {"0: a; 1: a", "a", 2, "0"}, {"0: a; 0: b", "b", 2, "1"},
		{"0: 1; 1: 2; 2:; 2: 3; 3: a", "", 1, "0 1 2"}, {"0:", "aaa", 4, ""}, {"0:; 0:", "a", 2, ""}, {"0: 1; 1: a; 1:", "a", 2, "0 1"}, {"0: 0 a; 0:", "a", 2, "0 1"}, {"0: a a", "aa", 3, "0"},
		{"0: 1 1; 1: a", "aa", 2, "0 1 1"}, {"0: 1; 0: a; 1: a", "a", 2, ""}, {"0: 1; 1: 1; 1: a", "", 1, ""},
	} {
		c.of(t, of(one.text), letters(one.w), one.sets, one.only)
	}
	if c.closed < 10000 || c.alone < 3000 || c.not < 10000 {
		t.Errorf("%+v: too few to show anything", c)
	}
}

// allSets counts sets that are closed, and derivations that are alone in such, or not.
type allSets struct{ closed, alone, not int }

// of goes through all sets of so many places, of a word that has the only derivation, or none or several.
func (c *allSets) of(t *testing.T, g api.Grammar, w []int, many int, only string) {
	t.Helper()
	all, first, lists := full(g, many), least(g, w), [][]int{{0}, {0, 1}, {1}, {0, 0}, numbers(only)}
	if _, e := sound.Check(g); e == api.OK {
		ders := derivations(g, w)
		if lists = append(lists, ders...); len(ders) == 1 != (only != "") {
			t.Fatalf("of %v, %v come %v", g, w, ders)
		}
	}
	items := 0
	for _, set := range all {
		items += len(set)
	}
	for bits := range 1 << items {
		sets := someOf(all, bits)
		is := closed.Closed(g, w, sets)
		if is != (len(faults(g, w, sets)) == 0) {
			t.Fatalf("Closed(%v, %v, %v): %v", g, w, sets, is)
		}
		if !is {
			if closed.Alone(g, w, sets, numbers(only)) {
				t.Fatalf("of %v, %v, %v: %s is alone", g, w, sets, only)
			}
			continue
		}
		c.closed++
		for at := range sets {
			for _, it := range first[at] {
				if !slices.Contains(sets[at], it) {
					t.Fatalf("of %v, %v: %v is closed", g, w, sets)
				}
			}
		}
		for _, l := range lists {
			lone := closed.Alone(g, w, sets, l)
			switch {
			case lone != (len(doubts(g, w, sets, l)) == 0):
				t.Fatalf("Alone(%v, %v, %v, %v): %v", g, w, sets, l, lone)
			case lone && (only == "" || !slices.Equal(l, numbers(only))):
				t.Fatalf("of %v, %v, %v: %v is alone", g, w, sets, l)
			case lone:
				c.alone++
			default:
				c.not++
			}
		}
	}
}

// someOf are sets of the items whose bits are 1.
func someOf(all [][]api.Item, bits int) [][]api.Item {
	sets := make([][]api.Item, len(all))
	for at, set := range all {
		for _, it := range set {
			if bits&1 == 1 {
				sets[at] = append(sets[at], it)
			}
			bits >>= 1
		}
	}
	return sets
}

// anyOne is a grammar of any size, sound mostly: the first productions are one of no nonterminals for each nonterminal; each is led to by one that is ahead of it in some order; and all stand in any order in the end.
func anyOne(r *rand.Rand) api.Grammar {
	g := api.Grammar{Terms: 1 + r.Intn(api.MostTerms), Nons: 1 + r.Intn(api.MostNons)}
	if r.Intn(3) > 0 {
		g.Terms = 1 + r.Intn(3)
	}
	names := r.Perm(g.Nons)
	g.Start = names[0]
	for non := range g.Nons {
		p := api.Prod{Left: non}
		for range r.Intn(3) {
			p.Right = append(p.Right, api.Sym{N: r.Intn(g.Terms)})
		}
		g.Prods = append(g.Prods, p)
	}
	for to := 1; to < g.Nons; to++ {
		at := r.Intn(to)
		right := anyRight(r, g, names[at+1:], r.Intn(api.MostRight))
		right = slices.Insert(right, r.Intn(len(right)+1), api.Sym{Non: true, N: names[to]})
		g.Prods = append(g.Prods, api.Prod{Left: names[at], Right: right})
	}
	for range r.Intn(api.MostProds + 1 - len(g.Prods)) {
		at := r.Intn(g.Nons)
		right := anyRight(r, g, names[at+1:], r.Intn(api.MostRight+1))
		g.Prods = append(g.Prods, api.Prod{Left: names[at], Right: right})
	}
	r.Shuffle(len(g.Prods), func(i, k int) { g.Prods[i], g.Prods[k] = g.Prods[k], g.Prods[i] })
	return g
}

// anyRight are so many symbols. Ahead of the first terminal stand some nonterminals alone, and mostly behind nonterminals, too.
func anyRight(r *rand.Rand, g api.Grammar, ahead []int, many int) []api.Sym {
	var l []api.Sym
	for free := false; len(l) < many; {
		switch {
		case r.Intn(2) == 0 || !free && len(ahead) == 0:
			l = append(l, api.Sym{N: r.Intn(g.Terms)})
			free = true
		case free:
			l = append(l, api.Sym{Non: true, N: r.Intn(g.Nons)})
		default:
			l = append(l, api.Sym{Non: true, N: ahead[r.Intn(len(ahead))]})
			free = r.Intn(50) == 0
		}
	}
	return l
}

// anyDerivation is one of a grammar that anyOne made, by any productions first, and by those of no nonterminals then.
func anyDerivation(r *rand.Rand, g api.Grammar) []int {
	var l []int
	steps := r.Intn(40)
	for left := []api.Sym{{Non: true, N: g.Start}}; len(left) > 0; {
		s := left[0]
		left = left[1:]
		if !s.Non {
			continue
		}
		of := gram.Of(g, s.N)
		by := of[r.Intn(len(of))]
		if steps--; steps < 0 {
			by = of[slices.IndexFunc(of, func(i int) bool {
				return !slices.ContainsFunc(g.Prods[i].Right, func(s api.Sym) bool { return s.Non })
			})]
		}
		l = append(l, by)
		left = slices.Concat(g.Prods[by].Right, left)
	}
	return l
}

// P19.1, P19.2: any grammars, up to the limits, be they sound or not, and derivations of them: in the least sets, in those with items more, and in those with items less.
func TestAny(t *testing.T) {
	r := rand.New(rand.NewSource(194))
	counts := map[string]int{}
	sounds := 0
	for range 200 {
		g := anyOne(r)
		l := anyDerivation(r, g)
		w, _, is := replay(g, l)
		if !is || len(w) > api.MostWord+2 {
			continue
		}
		sets := least(g, w)
		if _, e := sound.Check(g); e == api.OK && len(w) <= api.MostWord {
			sounds++
			sets = chart.Sets(g, w)
		}
		closes(t, g, w, sets)
		for round := range 6 {
			why := doubts(g, w, sets, l)
			for _, one := range why {
				counts[one]++
			}
			if len(why) == 0 {
				counts["alone"]++
			}
			tells(t, g, w, sets, l, len(why) == 0)
			says(t, g, w, sets, !slices.Contains(why, "closed"))
			at, prod := r.Intn(len(sets)), r.Intn(len(g.Prods))
			more := with(sets, at, item(prod, r.Intn(len(g.Prods[prod].Right)+1), r.Intn(at+1)))
			switch {
			case round == 4 && len(sets[at]) > 0:
				sets = without(sets, at, sets[at][r.Intn(len(sets[at]))])
			default:
				sets = grown(g, w, more)
			}
		}
	}
	if sounds < 80 || counts["alone"] < 200 || counts["another"] < 100 || counts["elsewhere"] < 50 || counts["closed"] < 50 {
		t.Errorf("%d sound grammars, %v: too few to show anything", sounds, counts)
	}
}
