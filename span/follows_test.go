package span_test

import (
	"math/rand"
	"slices"
	"strings"
	"testing"

	"probate/api"
	"probate/gram"
	"probate/sound"
	"probate/span"
)

// What follows works out from the productions alone which words come of nonterminals, and holds rows against that.

// languages are, of each nonterminal, the words that come of it, each cut behind so many tokens: words of symbols are put together, till nothing is new.
func languages(g api.Grammar, most int) []map[string]bool {
	l := make([]map[string]bool, g.Nons)
	for non := range l {
		l[non] = map[string]bool{}
	}
	for grown := true; grown; {
		grown = false
		for _, p := range g.Prods {
			for w := range together(l, p.Right, most) {
				grown = grown || !l[p.Left][w]
				l[p.Left][w] = true
			}
		}
	}
	return l
}

// together are the words of symbols, one behind the other, as far as they are known.
func together(l []map[string]bool, symbols []api.Sym, most int) map[string]bool {
	words := map[string]bool{"": true}
	for _, s := range symbols {
		of := map[string]bool{string(rune('a' + s.N)): true}
		if s.Non {
			of = l[s.N]
		}
		next := map[string]bool{}
		for ahead := range words {
			for behind := range of {
				w := ahead + behind
				next[w[:min(len(w), most)]] = true
			}
		}
		words = next
	}
	return words
}

// byWords is a word's row, by the chapter's words, of words that are cut nowhere but behind more tokens than this one has.
func byWords(l []map[string]bool, w string) span.Row {
	var row span.Row
	for non, words := range l {
		for many := range len(w) + 1 {
			if words[w[:many]] {
				row.Ends[non] |= 1 << many
			}
		}
		for longer := range words {
			if strings.HasPrefix(longer, w) {
				row.Over |= 1 << non
			}
		}
	}
	return row
}

// words are all of up to so many tokens.
func words(terms, most int) []string {
	l := []string{""}
	for i := 0; i < len(l); i++ {
		for n := range terms {
			if len(l[i]) < most {
				l = append(l, l[i]+string(rune('a'+n)))
			}
		}
	}
	return l
}

// follows holds the rows of all words of up to so many tokens, and what follows of them, and tells how many of these words come of the grammar.
func follows(t *testing.T, g api.Grammar, most int) int {
	l := languages(g, most+1)
	rows, come := map[string]span.Row{}, 0
	for _, w := range words(g.Terms, most) {
		rows[w] = byWords(l, w)
		want := []span.Row{}
		for at := range len(w) + 1 {
			want = append(want, rows[w[at:]])
		}
		tokens := letters(w)
		got := span.Rows(g, tokens)
		if !slices.Equal(got, want) {
			t.Fatalf("Rows(%v, %s): %v, not %v", g, w, got, want)
		}
		if row := span.One(g, tokens, want[1:]); row != want[0] {
			t.Fatalf("One(%v, %s): %v, not %v", g, w, row, want[0])
		}
		for at := range want {
			if alone := span.Rows(g, tokens[at:]); !slices.Equal(alone, got[at:]) {
				t.Fatalf("Rows(%v, %s) behind %d: %v, but alone %v", g, w, at, got, alone)
			}
		}
		if is := l[g.Start][w]; is != (got[0].Ends[g.Start]>>len(w)&1 == 1) {
			t.Fatalf("that %s comes of %v is %v, but its row is %v", w, g, is, got[0])
		} else if is {
			come++
		}
		inEnds(t, g, tokens, got)
	}
	return come
}

// inEnds holds that what comes of a production's symbols, one behind the other, is in the Ends of its nonterminal, and that nothing else is.
func inEnds(t *testing.T, g api.Grammar, w []int, rows []span.Row) {
	for at, row := range rows {
		var all [api.MostNons]uint32
		for _, p := range g.Prods {
			for _, to := range behind(w, rows, p.Right, at) {
				all[p.Left] |= 1 << (to - at)
			}
		}
		if all != row.Ends {
			t.Fatalf("of %v, %v: of the productions' symbols come %v at %d, but Ends are %v", g, w, all, at, row.Ends)
		}
	}
}

// behind are the places at which symbols may end that begin at one, each as often as they do.
func behind(w []int, rows []span.Row, symbols []api.Sym, at int) []int {
	if len(symbols) == 0 {
		return []int{at}
	}
	var l []int
	s := symbols[0]
	for to := at; to <= len(w); to++ {
		if s.Non && rows[at].Ends[s.N]>>(to-at)&1 == 1 || !s.Non && to == at+1 && w[at] == s.N {
			l = append(l, behind(w, rows, symbols[1:], to)...)
		}
	}
	return l
}

// productions are all there are, of rights up to so many symbols.
func productions(terms, nons, most int) []api.Prod {
	var symbols []api.Sym
	for n := range terms {
		symbols = append(symbols, api.Sym{N: n})
	}
	for n := range nons {
		symbols = append(symbols, api.Sym{Non: true, N: n})
	}
	rights := [][]api.Sym{nil}
	for i := 0; i < len(rights); i++ {
		for _, s := range symbols {
			if len(rights[i]) < most {
				rights = append(rights, append(slices.Clone(rights[i]), s))
			}
		}
	}
	var l []api.Prod
	for n := range nons {
		for _, r := range rights {
			l = append(l, api.Prod{Left: n, Right: r})
		}
	}
	return l
}

// each goes through all sound grammars of up to so many of these productions, in order, each with each Start.
func each(g api.Grammar, of []api.Prod, most int, do func(g api.Grammar)) {
	for g.Start = range g.Nons {
		if _, e := sound.Check(g); e == api.OK {
			do(g)
		}
	}
	g.Start = 0
	if len(g.Prods) == most {
		return
	}
	for _, p := range of {
		with := g
		with.Prods = append(slices.Clip(g.Prods), p)
		each(with, of, most, do)
	}
}

// of is a grammar of so many terminals.
func of(terms int, g api.Grammar) api.Grammar {
	g.Terms = terms
	return g
}

// P16.1, P16.2: of small sound grammars, and all words up to some length, each bit is what is worked out.
func TestSmall(t *testing.T) {
	many, come := 0, 0
	hold := func(most int) func(g api.Grammar) {
		return func(g api.Grammar) {
			many++
			come += follows(t, g, most)
		}
	}
	each(api.Grammar{Terms: 2, Nons: 1}, productions(2, 1, 2), 3, hold(4))
	each(api.Grammar{Terms: 1, Nons: 1}, productions(1, 1, 3), 3, hold(7))
	each(api.Grammar{Terms: 2, Nons: 1}, productions(2, 1, 3), 2, hold(5))
	each(api.Grammar{Terms: 1, Nons: 2}, productions(1, 2, 2), 3, hold(5))
	each(of(1, grammar(2, "0: 1 1; 1: a")), productions(1, 2, 2), 4, hold(5))
	each(of(2, grammar(2, "0: a 1; 1: b")), productions(2, 2, 2), 4, hold(4))
	each(of(2, grammar(2, "0: 1 b 1; 1:")), productions(2, 2, 2), 4, hold(4))
	each(of(2, grammar(3, "0: 1 2; 1: a; 2: b; 2:")), productions(2, 3, 1), 6, hold(4))
	each(of(1, grammar(3, "0: 1 a 2; 1: 2; 2:")), productions(1, 3, 2), 5, hold(5))
	each(of(1, grammar(3, "2: a 1; 1: 0 0; 0: a")), productions(1, 3, 2), 5, hold(5))
	each(grammar(3, "0: 1 2; 1:; 2:"), productions(0, 3, 2), 5, hold(0))
	if many < 8000 || come < 20000 {
		t.Errorf("%d grammars, of which %d words come: too few to show anything", many, come)
	}
}

// anyOne is a grammar of any size, sound mostly: the first productions are one of no nonterminals for each nonterminal, by their numbers; each is led to by one that is ahead of it in some order.
func anyOne(r *rand.Rand) api.Grammar {
	g := api.Grammar{Terms: 1 + r.Intn(api.MostTerms), Nons: 1 + r.Intn(api.MostNons)}
	if r.Intn(2) == 0 {
		g.Terms = 1 + r.Intn(3)
	}
	names := r.Perm(g.Nons)
	g.Start = names[0]
	for non := range g.Nons {
		p := api.Prod{Left: non}
		for range r.Intn(3) {
			p.Right = append(p.Right, api.Sym{N: r.Intn(g.Terms)})
		}
		g.Prods = append(g.Prods, p)
	}
	for to := 1; to < g.Nons; to++ {
		at := r.Intn(to)
		right := anyRight(r, g, names[at+1:], r.Intn(api.MostRight))
		right = slices.Insert(right, r.Intn(len(right)+1), api.Sym{Non: true, N: names[to]})
		g.Prods = append(g.Prods, api.Prod{Left: names[at], Right: right})
	}
	for range r.Intn(api.MostProds + 1 - len(g.Prods)) {
		at := r.Intn(g.Nons)
		right := anyRight(r, g, names[at+1:], r.Intn(api.MostRight+1))
		g.Prods = append(g.Prods, api.Prod{Left: names[at], Right: right})
	}
	return g
}

// anyRight are so many symbols. Ahead of the first terminal stand some nonterminals alone, and mostly behind nonterminals, too.
func anyRight(r *rand.Rand, g api.Grammar, ahead []int, many int) []api.Sym {
	var l []api.Sym
	for free := false; len(l) < many; {
		switch {
		case r.Intn(2) == 0 || !free && len(ahead) == 0:
			l = append(l, api.Sym{N: r.Intn(g.Terms)})
			free = true
		case free:
			l = append(l, api.Sym{Non: true, N: r.Intn(g.Nons)})
		default:
			l = append(l, api.Sym{Non: true, N: ahead[r.Intn(len(ahead))]})
			free = r.Intn(50) == 0
		}
	}
	return l
}

// anyWord comes of a grammar that anyOne made, by any productions first, and by those of no nonterminals then.
func anyWord(r *rand.Rand, g api.Grammar) []int {
	w, steps := []int{}, r.Intn(40)
	for left := []api.Sym{{Non: true, N: g.Start}}; len(left) > 0; {
		s := left[0]
		left = left[1:]
		if !s.Non {
			w = append(w, s.N)
			continue
		}
		by := s.N
		if steps--; steps > 0 {
			of := gram.Of(g, s.N)
			by = of[r.Intn(len(of))]
		}
		left = slices.Concat(g.Prods[by].Right, left)
	}
	return w
}

// P16.1, P16.2: any sound grammars, up to the limits; words that come of them, that are beginnings of such, and that are changed.
func TestAny(t *testing.T) {
	r := rand.New(rand.NewSource(161))
	many, whole, cut, wrong := 0, 0, 0, 0
	for range 600 {
		g := anyOne(r)
		if _, e := sound.Check(g); e != api.OK {
			continue
		}
		many++
		w := anyWord(r, g)
		most := min(len(w), 1+r.Intn(api.MostWord))
		if r.Intn(2) == 0 {
			most = min(len(w), api.MostWord)
		}
		is := len(w) == most
		w = w[:most]
		rows := byParts(g, w)
		says(t, g, w, rows)
		if rows[0].Over>>g.Start&1 == 0 || is && rows[0].Ends[g.Start]>>len(w)&1 == 0 {
			t.Fatalf("%v comes of %v, or begins what does, but its row is %v", w, g, rows[0])
		}
		if is {
			whole++
		} else {
			cut++
		}
		if len(w) > 0 {
			w[r.Intn(len(w))] = r.Intn(g.Terms)
			rows = byParts(g, w)
			says(t, g, w, rows)
			if rows[0].Over>>g.Start&1 == 0 {
				wrong++
			}
		}
	}
	if many < 500 || whole < 100 || cut < 100 || wrong < 100 {
		t.Errorf("%d grammars, %d words, %d beginnings, %d that are neither: too few to show anything", many, whole, cut, wrong)
	}
}
