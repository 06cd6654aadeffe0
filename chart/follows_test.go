package chart_test

import (
	"math/rand"
	"slices"
	"strings"
	"testing"

	"probate/api"
	"probate/chart"
	"probate/gram"
	"probate/sound"
)

// What follows works out from the productions alone which words come of symbols, and holds what is told of words against that.

// languages are, of each nonterminal, the words that come of it, each cut behind so many tokens: words of symbols are put together, till nothing is new.
func languages(g api.Grammar, most int) []map[string]bool {
	l := make([]map[string]bool, g.Nons)
	for non := range l {
		l[non] = map[string]bool{}
	}
	for grown := true; grown; {
		grown = false
		for _, p := range g.Prods {
			for w := range together(l, p.Right, most) {
				grown = grown || !l[p.Left][w]
				l[p.Left][w] = true
			}
		}
	}
	return l
}

// together are the words of symbols, one behind the other, as far as they are known.
func together(l []map[string]bool, symbols []api.Sym, most int) map[string]bool {
	words := map[string]bool{"": true}
	for _, s := range symbols {
		of := map[string]bool{string(rune('a' + s.N)): true}
		if s.Non {
			of = l[s.N]
		}
		next := map[string]bool{}
		for ahead := range words {
			for behind := range of {
				w := ahead + behind
				next[w[:min(len(w), most)]] = true
			}
		}
		words = next
	}
	return words
}

// words are all of up to so many tokens.
func words(terms, most int) []string {
	l := []string{""}
	for i := 0; i < len(l); i++ {
		for n := range terms {
			if len(l[i]) < most {
				l = append(l, l[i]+string(rune('a'+n)))
			}
		}
	}
	return l
}

// known is what is worked out of a grammar: which words come, which begin such words, and which come of each production's symbols ahead of each of its places. Only words of fewer tokens than all were cut behind are asked for.
type known struct {
	comes, begins map[string]bool
	ahead         [][]map[string]bool
}

func know(g api.Grammar, most int) known {
	l := languages(g, most)
	k := known{comes: l[g.Start], begins: map[string]bool{}}
	for w := range k.comes {
		for many := range len(w) + 1 {
			k.begins[w[:many]] = true
		}
	}
	for _, p := range g.Prods {
		var of []map[string]bool
		for dot := range len(p.Right) + 1 {
			of = append(of, together(l, p.Right[:dot], most))
		}
		k.ahead = append(k.ahead, of)
	}
	return k
}

// next is what may stand behind some tokens, by the words that come.
func (k *known) next(w string) uint32 {
	bits := uint32(0)
	for tok := range api.MostTerms {
		if k.begins[w+string(rune('a'+tok))] {
			bits |= 1 << tok
		}
	}
	if k.comes[w] {
		bits |= end
	}
	return bits
}

// seen counts words: such that come, that stop at their end, and at a token; and items that were held.
type seen struct{ grammars, come, atEnd, atToken, items int }

// follows holds what is told of all words of up to so many tokens, and what follows of it.
func (s *seen) follows(t *testing.T, g api.Grammar, most int) {
	t.Helper()
	s.grammars++
	k := know(g, most+2)
	for _, text := range words(g.Terms, most) {
		w := letters(text)
		at, bits, is := chart.Stop(g, w)
		if is == k.comes[text] {
			t.Fatalf("that %s comes of %v is %v, but it stops at %d, %v", text, g, k.comes[text], at, is)
		}
		if is {
			s.stops(t, g, &k, text, at, bits)
		} else {
			s.come++
		}
		sets := chart.Sets(g, w)
		for at, set := range sets {
			s.inSet(t, g, &k, text, at, set)
		}
		if own := least(g, w); !same(sets, own) {
			t.Fatalf("Sets(%v, %s): %v, not %v", g, text, sets, own)
		}
	}
}

// stops holds that a word is the beginning of one that comes, up to a place, and not behind it, and that what is next there is what may stand there.
func (s *seen) stops(t *testing.T, g api.Grammar, k *known, w string, at int, bits uint32) {
	t.Helper()
	if at < 0 || at > len(w) || !k.begins[w[:at]] || bits != k.next(w[:at]) {
		t.Fatalf("Stop(%v, %s): %d, %b, but that it begins a word is %v", g, w, at, bits, k.begins)
	}
	switch {
	case at == len(w):
		s.atEnd++
	case k.begins[w[:at+1]]:
		t.Fatalf("Stop(%v, %s): %d, but %s begins a word", g, w, at, w[:at+1])
	default:
		s.atToken++
	}
}

// inSet holds that of each item the symbols ahead of its Dot come to the part of the word from its From on, and that what is next there is what may stand there, if something may.
func (s *seen) inSet(t *testing.T, g api.Grammar, k *known, w string, at int, set []api.Item) {
	t.Helper()
	for _, it := range set {
		if it.From < 0 || it.From > at || !k.ahead[it.Prod][it.Dot][w[it.From:at]] {
			t.Fatalf("of %v, %s: %v stands at %d", g, w, it, at)
		}
		s.items++
	}
	if got, want := chart.Next(g, set), k.next(w[:at]); got != want || len(set) > 0 != k.begins[w[:at]] {
		t.Fatalf("of %v, %s: next at %d is %b, not %b, of %v", g, w, at, got, want, set)
	}
}

// productions are all there are, of rights up to so many symbols.
func productions(terms, nons, most int) []api.Prod {
	var symbols []api.Sym
	for n := range terms {
		symbols = append(symbols, api.Sym{N: n})
	}
	for n := range nons {
		symbols = append(symbols, api.Sym{Non: true, N: n})
	}
	rights := [][]api.Sym{nil}
	for i := 0; i < len(rights); i++ {
		for _, s := range symbols {
			if len(rights[i]) < most {
				rights = append(rights, append(slices.Clone(rights[i]), s))
			}
		}
	}
	var l []api.Prod
	for n := range nons {
		for _, r := range rights {
			l = append(l, api.Prod{Left: n, Right: r})
		}
	}
	return l
}

// grammars goes through all sound grammars of up to so many of these productions, in order, each with each Start.
func grammars(g api.Grammar, of []api.Prod, most int, do func(g api.Grammar)) {
	for g.Start = range g.Nons {
		if _, e := sound.Check(g); e == api.OK {
			do(g)
		}
	}
	g.Start = 0
	if len(g.Prods) == most {
		return
	}
	for _, p := range of {
		with := g
		with.Prods = append(slices.Clip(g.Prods), p)
		grammars(with, of, most, do)
	}
}

// P18.1, P18.2, P18.3: of small sound grammars, and all words up to some length.
func TestSmall(t *testing.T) {
	var s seen
	hold := func(most int) func(g api.Grammar) {
		return func(g api.Grammar) { s.follows(t, g, most) }
	}
	grammars(api.Grammar{Terms: 2, Nons: 1}, productions(2, 1, 2), 3, hold(4))
	grammars(api.Grammar{Terms: 1, Nons: 1}, productions(1, 1, 3), 3, hold(6))
	grammars(api.Grammar{Terms: 2, Nons: 1}, productions(2, 1, 3), 2, hold(4))
	grammars(api.Grammar{Terms: 1, Nons: 2}, productions(1, 2, 2), 3, hold(4))
	grammars(terms(1, of("0: 1 1; 1: a")), productions(1, 2, 2), 4, hold(4))
	grammars(terms(1, of("0: 1 1; 1: a; 1:")), productions(1, 2, 2), 5, hold(4))
	grammars(terms(2, of("0: a 1; 1: b")), productions(2, 2, 2), 3, hold(5))
	grammars(terms(2, of("0: 1 b 1; 1:")), productions(2, 2, 2), 3, hold(5))
	grammars(terms(2, of("0: 1 2; 1: a; 2: b; 2:")), productions(2, 3, 1), 5, hold(5))
	grammars(terms(1, of("0: 1 a 2; 1: 2; 2:")), productions(1, 3, 2), 5, hold(4))
	grammars(terms(1, of("2: a 1; 1: 0 0; 0: a")), productions(1, 3, 2), 5, hold(4))
	grammars(of("0: 1 2; 1:; 2:"), productions(0, 3, 2), 5, hold(0))
	if s.grammars < 5000 || s.come < 10000 || s.atEnd < 10000 || s.atToken < 10000 || s.items < 100000 {
		t.Errorf("%+v: too few to show anything", s)
	}
}

// P18.3: grammars of several nonterminals of which nothing comes, with longer words.
func TestSome(t *testing.T) {
	var s seen
	for _, g := range []api.Grammar{
		of("0: a 0 b; 0:"), of("0: a 0; 0: b 0; 0:"), of("0: 1 2 1; 1: a; 1:; 2: b; 2:"), of("0: a 0 b 0; 0:"), of("0: 1 b 1; 1: a 1; 1:"),
		of("0: 1 2; 0: 2 1; 1: a; 1: a b; 2: b; 2: b a 2"), of("0: 1 1 1; 1: 2 b 2; 2: a; 2:"), of("0: a 1; 1: 2 0; 1:; 2: b; 2: 3; 3:"), from(1, of("0: a; 1: b 0; 1: 0 1")),
	} {
		s.follows(t, terms(2, g), 8)
	}
	for _, g := range []api.Grammar{of("0: 1 c; 1: a; 1: b; 1:"), of("0: a 0 c; 0: b; 0: c 1; 1: b 1; 1:"), of("0: 1 2 3; 1: a; 1:; 2: b; 2:; 3: c; 3: 2 1")} {
		s.follows(t, terms(3, g), 5)
	}
	for _, text := range words(2, 6) { // each word alone, and with all its beginnings
		symbols := strings.Split(text, "")
		one, all := "0: "+strings.Join(symbols, " "), ""
		for many := range len(symbols) + 1 {
			all += "0: " + strings.Join(symbols[:many], " ") + ";"
		}
		s.follows(t, terms(2, of(one)), 3)
		s.follows(t, terms(2, of(all)), 3)
	}
	if s.grammars < 200 || s.come < 1000 || s.atEnd < 500 || s.atToken < 2000 || s.items < 100000 {
		t.Errorf("%+v: too few to show anything", s)
	}
}

// anyOne is a grammar of any size, sound mostly: the first productions are one of no nonterminals for each nonterminal; each is led to by one that is ahead of it in some order; and all stand in any order in the end.
func anyOne(r *rand.Rand) api.Grammar {
	g := api.Grammar{Terms: 1 + r.Intn(api.MostTerms), Nons: 1 + r.Intn(api.MostNons)}
	if r.Intn(3) > 0 {
		g.Terms = 1 + r.Intn(3)
	}
	names := r.Perm(g.Nons)
	g.Start = names[0]
	for non := range g.Nons {
		p := api.Prod{Left: non}
		for range r.Intn(3) {
			p.Right = append(p.Right, api.Sym{N: r.Intn(g.Terms)})
		}
		g.Prods = append(g.Prods, p)
	}
	for to := 1; to < g.Nons; to++ {
		at := r.Intn(to)
		right := anyRight(r, g, names[at+1:], r.Intn(api.MostRight))
		right = slices.Insert(right, r.Intn(len(right)+1), api.Sym{Non: true, N: names[to]})
		g.Prods = append(g.Prods, api.Prod{Left: names[at], Right: right})
	}
	for range r.Intn(api.MostProds + 1 - len(g.Prods)) {
		at := r.Intn(g.Nons)
		right := anyRight(r, g, names[at+1:], r.Intn(api.MostRight+1))
		g.Prods = append(g.Prods, api.Prod{Left: names[at], Right: right})
	}
	r.Shuffle(len(g.Prods), func(i, k int) { g.Prods[i], g.Prods[k] = g.Prods[k], g.Prods[i] })
	return g
}

// anyRight are so many symbols. Ahead of the first terminal stand some nonterminals alone, and mostly behind nonterminals, too.
func anyRight(r *rand.Rand, g api.Grammar, ahead []int, many int) []api.Sym {
	var l []api.Sym
	for free := false; len(l) < many; {
		switch {
		case r.Intn(2) == 0 || !free && len(ahead) == 0:
			l = append(l, api.Sym{N: r.Intn(g.Terms)})
			free = true
		case free:
			l = append(l, api.Sym{Non: true, N: r.Intn(g.Nons)})
		default:
			l = append(l, api.Sym{Non: true, N: ahead[r.Intn(len(ahead))]})
			free = r.Intn(50) == 0
		}
	}
	return l
}

// anyWord comes of a grammar that anyOne made, by any productions first, and by those of no nonterminals then.
func anyWord(r *rand.Rand, g api.Grammar) []int {
	w, steps := []int{}, r.Intn(40)
	for left := []api.Sym{{Non: true, N: g.Start}}; len(left) > 0; {
		s := left[0]
		left = left[1:]
		if !s.Non {
			w = append(w, s.N)
			continue
		}
		of := gram.Of(g, s.N)
		by := of[r.Intn(len(of))]
		if steps--; steps < 0 {
			by = of[slices.IndexFunc(of, func(i int) bool {
				return !slices.ContainsFunc(g.Prods[i].Right, func(s api.Sym) bool { return s.Non })
			})]
		}
		left = slices.Concat(g.Prods[by].Right, left)
	}
	return w
}

// P18.1, P18.2, P18.3: any sound grammars, up to the limits; words that come of them, that are beginnings of such, and that are changed.
func TestAny(t *testing.T) {
	r := rand.New(rand.NewSource(183))
	many, whole, begin, wrong := 0, 0, 0, 0
	for range 250 {
		g := anyOne(r)
		if _, e := sound.Check(g); e != api.OK {
			continue
		}
		many++
		w := anyWord(r, g)
		most := min(len(w), 1+r.Intn(api.MostWord))
		is := len(w) == most
		w = w[:most:most]
		says(t, g, w, byParts(g, w))
		at, _, stops := chart.Stop(g, w)
		switch {
		case is && stops, stops && at < len(w):
			t.Fatalf("%v comes of %v, or begins what does, but it stops at %d", w, g, at)
		case stops:
			begin++
		default:
			whole++
		}
		if len(w) > 0 {
			w[r.Intn(len(w))] = r.Intn(g.Terms)
			says(t, g, w, byParts(g, w))
			if at, _, stops := chart.Stop(g, w); stops && at < len(w) {
				wrong++
			}
		}
	}
	if many < 200 || whole < 100 || begin < 30 || wrong < 40 {
		t.Errorf("%d grammars, %d words, %d beginnings, %d that are neither: too few to show anything", many, whole, begin, wrong)
	}
}
