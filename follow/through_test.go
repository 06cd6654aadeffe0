package follow_test

import (
	"math"
	"slices"
	"strconv"
	"strings"
	"testing"

	"probate/api"
	"probate/follow"
	"probate/gram"
)

const last = api.MostNons - 1

// non is a nonterminal.
func non(n int) api.Sym { return api.Sym{Non: true, N: n} }

// eachWay goes through chains of as many nonterminals as there may be, in rising, in falling and in another order, their productions in either order; each but the last is followed by the next one, and by what else is told, and more productions stand among them.
func eachWay(behind func(of func(int) int) []api.Sym, more func(of func(int) int) []api.Prod, do func(g api.Grammar, of func(int) int)) {
	for _, of := range []func(int) int{
		func(i int) int { return i },
		func(i int) int { return last - i },
		func(i int) int { return i * 7 % api.MostNons },
	} {
		g := grammar(api.MostNons, "")
		for i := range last {
			g.Prods = append(g.Prods, api.Prod{Left: of(i), Right: append([]api.Sym{{N: 0}, non(of(i + 1))}, behind(of)...)})
		}
		half := len(g.Prods) / 2
		g.Prods = slices.Insert(g.Prods, half, more(of)...)
		do(g, of)
		slices.Reverse(g.Prods)
		do(g, of)
	}
}

// along are sets of a chain: of each of its places a set.
func along(of func(int) int, at func(i int) uint32) []uint32 {
	l := make([]uint32, api.MostNons)
	for i := range l {
		l[of(i)] = at(i)
	}
	return l
}

// from is a set that is there from a place on.
func from(i, place int, text string) uint32 {
	if i < place {
		return 0
	}
	return set(text)
}

// P12.1: sets that come through others, in a chain of as many nonterminals as there may be, from each place on, and round a ring.
func TestChains(t *testing.T) {
	none := func(of func(int) int) []api.Sym { return nil }
	for start := range api.MostNons {
		eachWay(none, func(of func(int) int) []api.Prod { return nil }, func(g api.Grammar, of func(int) int) {
			g.Start = of(start)
			told(t, g, along(of, func(i int) uint32 { return from(i, start, "$") }))
		})
		for place := range api.MostNons {
			put := func(of func(int) int) []api.Prod {
				return []api.Prod{{Left: of(place), Right: []api.Sym{non(of(place)), {N: 15}, {N: 1}}}}
			}
			eachWay(none, put, func(g api.Grammar, of func(int) int) {
				g.Start = of(start)
				told(t, g, along(of, func(i int) uint32 { return from(i, start, "$") | from(i, place, "p") }))
				ring := (start + place) % api.MostNons
				g.Prods = append(g.Prods, api.Prod{Left: of(last), Right: []api.Sym{non(of(ring))}})
				told(t, g, along(of, func(i int) uint32 { return from(i, min(ring, start), "$") | from(i, min(ring, place), "p") }))
			})
		}
	}
}

// P12.1: likewise, where behind each of the chain stands one more: a nullable one, of a set of its own or of none, and one that is not nullable, which lets nothing through.
func TestChainsBehindWhichOthersStand(t *testing.T) {
	behind := func(of func(int) int) []api.Sym { return []api.Sym{non(of(last))} }
	for _, c := range []struct{ productions, first, rest string }{
		{":", "$", "$"},
		{":;: c", "$", "c$"},
		{": c", "$", "c"},
		{"", "$", "-"},
	} {
		eachWay(behind, func(of func(int) int) []api.Prod {
			return grammar(api.MostNons, strings.ReplaceAll(c.productions, ":", strconv.Itoa(of(last))+":")).Prods
		}, func(g api.Grammar, of func(int) int) {
			g.Start = of(0)
			want := along(of, func(i int) uint32 {
				if i == 0 {
					return set(c.first)
				}
				return set(c.rest)
			})
			want[of(last)] |= set("$") // it stands at the end of Start's production
			told(t, g, want)
		})
	}
}

// P12.1: sets that come through others, each of which puts in a terminal more.
func TestRising(t *testing.T) {
	eachWay(func(of func(int) int) []api.Sym { return nil }, func(of func(int) int) []api.Prod {
		var l []api.Prod
		for i := range api.MostTerms {
			l = append(l, api.Prod{Left: of(last), Right: []api.Sym{non(of(i)), {N: i}}})
		}
		return l
	}, func(g api.Grammar, of func(int) int) {
		g.Start = of(api.MostTerms)
		told(t, g, along(of, func(i int) uint32 {
			if i < api.MostTerms {
				return 1<<(i+1) - 1
			}
			return 1<<17 - 1
		}))
	})
}

// P12.1: nonterminals that end in themselves, and in each other.
func TestRings(t *testing.T) {
	tells(t, grammar(1, "0: 0"), "$")
	tells(t, grammar(1, "0: a 0"), "$")
	tells(t, grammar(1, "0: a 0; 0: 0 b"), "b$")
	tells(t, grammar(2, "0: 1 a; 1: b 1"), "$ a")
	tells(t, grammar(2, "0: 1 a; 1: 1; 1: 1 c"), "$ ac")
	tells(t, grammar(2, "0: 1; 1: 0"), "$ $")
	tells(t, grammar(2, "0: 1; 1: 0; 0: 1 a"), "a$ a$")
	tells(t, grammar(2, "0: 1; 1: 0; 1: 0 a"), "a$ a$")
	tells(t, grammar(2, "0: b 1; 1: c 0; 1: 0 d; 0: 1 e"), "de$ de$")
	tells(t, grammar(3, "0: 1 a; 1: b 2; 2: c 1; 2: 1 d"), "$ ad ad")
	tells(t, grammar(3, "0: 1 a; 1: b 2; 2: c 1; 1: 2 d"), "$ ad ad")
	tells(t, grammar(3, "0: 1; 1: 2; 2: 0; 1: 2 f"), "f$ f$ f$")
	tells(t, grammar(4, "0: 1 a; 1: 2; 2: 3; 3: 1; 2: 3 b; 3: 3 c; 0: 2 d"), "$ abcd abcd abcd")
	tells(t, grammar(5, "0: 1 a; 1: 2; 2: 1; 0: 3 b; 3: 4; 4: 3"), "$ a a b b")
	tells(t, grammar(5, "0: 1 a; 1: 2; 2: 1; 0: 3 b; 3: 4; 4: 3; 4: 2"), "$ ab ab b b")
}

// P12.1: nonterminals that end in themselves, and in each other, and behind which nullable ones stand.
func TestRingsBehindWhichNullableStand(t *testing.T) {
	tells(t, grammar(2, "0: 0 1; 1:"), "$ $")
	tells(t, grammar(2, "0: 0 1; 1:; 1: a"), "a$ a$")
	tells(t, grammar(2, "0: 0 1; 1: a"), "a$ a$")
	tells(t, grammar(2, "0: a 0 1 1; 1:; 1: b"), "b$ b$")
	tells(t, grammar(3, "0: 1 2; 1: 0 2; 2:; 2: b"), "b$ b$ b$")
	tells(t, grammar(3, "0: 1 2; 1: 0 2; 2:"), "$ $ $")
	tells(t, grammar(3, "0: 1 2; 1: 0 2; 2: b"), "b$ b b$")
	tells(t, grammar(3, "0: 1 2; 1: 0; 2:"), "$ $ $")
	tells(t, grammar(3, "0: 1; 1: 0 2; 2: b"), "b$ b$ b$")
	tells(t, grammar(4, "0: 1 a; 1: 2 3; 2: 3 1; 3:"), "$ a a a")
	tells(t, grammar(4, "0: 1 a; 1: 2 3; 2: 3 1; 3:; 3: b"), "$ ab ab ab")
	tells(t, grammar(4, "0: 1 a; 1: 2 3 b; 2: c 1 3; 3:"), "$ ab b b")
	tells(t, grammar(4, "0: 1 a; 1: b 2 3 3; 2: c 1 3; 3: d; 3:"), "$ ad ad ad")
	tells(t, grammar(4, "0: 1 a; 1: b 2 3 3; 2: c 1 3; 3: d"), "$ ad d ad")
}

// P12.1: what stands behind a nonterminal in productions to which nothing leads from Start is in its set all the same.
func TestNothingLeadsThere(t *testing.T) {
	tells(t, grammar(3, "0: a; 1: 2 b"), "$ - b")
	tells(t, grammar(3, "0: a; 1: 2; 1: 2 c"), "$ - c")
	tells(t, grammar(3, "0: a 2; 1: 2 c"), "$ - c$")
	tells(t, grammar(3, "0: a; 1: 2; 2: 1 d"), "$ d d")
	tells(t, grammar(3, "0: 2; 1: 0 e"), "e$ - e$")
	tells(t, grammar(3, "0: a; 1: 1 2; 2: b; 2:"), "$ b b")
	tells(t, grammar(4, "1: 0 2 3; 2: b; 2:; 3: c"), "bc$ - c -")
	tells(t, grammar(4, "1: 0 2 3; 1: 1 d; 2: b; 2:; 3: c; 3:"), "bcd$ d cd d")
}

// P12.1: a nonterminal without a production, and one of which no word comes, have sets, and what stands behind them has; ahead of them nothing is but what they begin with.
func TestNoWord(t *testing.T) {
	tells(t, grammar(2, "0: 1"), "$ $")
	tells(t, grammar(2, "0: 1 a"), "$ a")
	tells(t, grammar(2, "0: 1 a; 1: 1 b"), "$ ab")
	tells(t, grammar(2, "0: 1 a; 1: b 1"), "$ a")
	tells(t, grammar(3, "0: 1 2"), "$ - $")
	tells(t, grammar(3, "0: 1 2 a"), "$ - a")
	tells(t, grammar(3, "0: 1 2; 1: b; 2: c 2"), "$ c $")
	tells(t, grammar(3, "0: 1 2 a; 1: b; 2: 2 c"), "$ - ac")
	tells(t, grammar(3, "0: 1 a 2; 2: b 1 0"), "$ a $")
	tells(t, grammar(3, "0: 1 a 2; 2: b 0 1"), "$ a$ $")
	tells(t, grammar(2, "0: a 0 1; 1: b"), "b$ b$")
}

// P12.1: the greatest terminal that there may be is in sets beside the end, and neither is taken for the other.
func TestGreatestTerminal(t *testing.T) {
	tells(t, grammar(2, "0: 1 p; 0: 1"), "$ p$")
	tells(t, grammar(2, "0: 1 p"), "$ p")
	tells(t, grammar(2, "0: p 1"), "$ $")
	tells(t, grammar(2, "0: 0 p; 0: 1"), "p$ p$")
	tells(t, grammar(3, "0: 1 2; 2: p; 2:"), "$ p$ $")
	tells(t, grammar(3, "0: 1 2; 2: p"), "$ p $")
	told(t, grammar(2, "0: 1 p; 0: 1 a; 0: 1"), []uint32{1 << 16, 1<<16 + 1<<15 + 1})
	all := ""
	for i := range api.MostTerms {
		all += "0: 1 " + string(rune('a'+i)) + ";"
	}
	told(t, grammar(2, all), []uint32{1 << 16, 1<<16 - 1})
	told(t, grammar(2, all+"0: 1"), []uint32{1 << 16, 1<<17 - 1})
	told(t, grammar(2, strings.ReplaceAll(all, "0: 1", "0: 0")+"0: 1"), []uint32{1<<17 - 1, 1<<17 - 1})
}

// P12.1: in a grammar of no terminals there is the end alone.
func TestNoTerminals(t *testing.T) {
	for text, want := range map[string]string{
		"":                     "$ - -",
		"0:":                   "$ - -",
		"0: 1 2":               "$ - $",
		"0: 1 2; 2:":           "$ $ $",
		"0: 1 2; 2:; 1: 2 2":   "$ $ $",
		"0: 1 2; 2: 0; 0:":     "$ $ $",
		"0: 1 2; 2: 0":         "$ - $",
		"1: 0 2; 2: 1":         "$ - -",
		"1: 2 0; 0: 2; 2: 0 0": "$ - $",
	} {
		g := grammar(3, text)
		g.Terms = 0
		tells(t, g, want)
	}
	for nons := 1; nons <= api.MostNons; nons++ {
		g := api.Grammar{Nons: nons, Start: nons / 2}
		for i := range api.MostProds {
			g.Prods = append(g.Prods, api.Prod{Left: i % nons, Right: slices.Repeat([]api.Sym{non((i + 1) % nons)}, 1+i%api.MostRight)})
		}
		told(t, g, worked(g))
	}
}

// P12.1: as many productions, and symbols, as there may be: the last ones count.
func TestMost(t *testing.T) {
	tells(t, grammar(2, strings.Repeat("0: 1 a;", api.MostProds-1)+"1: 1 b"), "$ ab")
	tells(t, grammar(2, strings.Repeat("0: 1 a;", api.MostProds-1)+"0: 1"), "$ a$")
	tells(t, grammar(2, "0: 1 a;"+strings.Repeat("0:;", api.MostProds-2)+"1: 0 b"), "b$ a")
	tells(t, grammar(2, "0: a a a a a a 1 b"), "$ b")
	tells(t, grammar(2, "0: a a a a a a a 1"), "$ $")
	tells(t, grammar(2, "0: 1 a a a a a a b"), "$ a")
	tells(t, grammar(3, "0: 1 2 2 2 2 2 2 b; 2:"), "$ b b")
	tells(t, grammar(3, "0: 1 2 2 2 2 2 2 2; 2:"), "$ $ $")
	tells(t, grammar(4, "0: 1 2 2 2 2 2 2 3; 2:"), "$ - - $")
}

// mayNot are grammars that may not be, by what is wrong with each.
func mayNot() map[string]api.Grammar {
	with := func(change func(g *api.Grammar)) api.Grammar {
		g := grammar(2, "0: 1; 1: 0 0; 1: a 1; 0: b")
		g.Terms = 3
		change(&g)
		return g
	}
	return map[string]api.Grammar{
		"the empty grammar":        {},
		"Terms below 0":            with(func(g *api.Grammar) { g.Terms = -1 }),
		"Terms below 0, alone":     {Terms: -1, Nons: 2, Prods: []api.Prod{{}}},
		"Terms far below 0, alone": {Terms: math.MinInt, Nons: 2},
		"Terms one more":           with(func(g *api.Grammar) { g.Terms = api.MostTerms + 1 }),
		"Terms far more":           with(func(g *api.Grammar) { g.Terms = math.MaxInt }),
		"Nons below 0":             with(func(g *api.Grammar) { g.Nons = -1 }),
		"Nons far below 0":         with(func(g *api.Grammar) { g.Nons = math.MinInt }),
		"Nons 0":                   with(func(g *api.Grammar) { g.Nons = 0 }),
		"Nons 0, no productions":   {Terms: 1},
		"Nons one more":            with(func(g *api.Grammar) { g.Nons = api.MostNons + 1 }),
		"Nons far more":            with(func(g *api.Grammar) { g.Nons = math.MaxInt }),
		"Start below 0":            with(func(g *api.Grammar) { g.Start = -1 }),
		"Start far below 0":        with(func(g *api.Grammar) { g.Start = math.MinInt }),
		"Start one more":           with(func(g *api.Grammar) { g.Start = 2 }),
		"Start one more, alone":    {Nons: 1, Start: 1},
		"productions one more":     {Nons: 2, Prods: make([]api.Prod, api.MostProds+1)},
		"Left below 0":             with(func(g *api.Grammar) { g.Prods[2].Left = -1 }),
		"Left one more":            with(func(g *api.Grammar) { g.Prods[2].Left = 2 }),
		"the last Left one more":   with(func(g *api.Grammar) { g.Prods[3].Left = 2 }),
		"symbols one more":         with(func(g *api.Grammar) { g.Prods[2].Right = make([]api.Sym, api.MostRight+1) }),
		"a terminal below 0":       with(func(g *api.Grammar) { g.Prods[2].Right[0].N = -1 }),
		"a terminal one more":      with(func(g *api.Grammar) { g.Prods[2].Right[0].N = 3 }),
		"the end as a terminal":    with(func(g *api.Grammar) { g.Terms, g.Prods[2].Right[0].N = api.MostTerms, follow.End }),
		"a terminal of none":       with(func(g *api.Grammar) { g.Terms = 0 }),
		"a nonterminal below 0":    with(func(g *api.Grammar) { g.Prods[2].Right[1].N = -1 }),
		"a nonterminal one more":   with(func(g *api.Grammar) { g.Prods[2].Right[1].N = 2 }),
		"a nonterminal far below":  with(func(g *api.Grammar) { g.Prods[1].Right[1].N = math.MinInt }),
		"a nonterminal far more":   with(func(g *api.Grammar) { g.Prods[1].Right[0].N = math.MaxInt }),
	}
}

// P12.1: of a grammar that may not be nothing is told, that is nil.
func TestMayNotBe(t *testing.T) {
	for what, g := range mayNot() {
		if gram.Right(g) {
			t.Errorf("%s may be", what)
		}
		before := gram.Clone(g)
		if l := follow.Follow(g); l != nil {
			t.Errorf("%s: Follow: %v", what, l)
		}
		if !gram.Same(g, before) {
			t.Errorf("%s is changed", what)
		}
	}
	tells(t, grammar(2, "0: 1; 1: 0 0; 1: a 1; 0: b"), "ab$ ab$")
}

// R3, R4, R5: a change of the grammar changes nothing of what was told, and a change of what was told nothing of the grammar, nor of another answer.
func TestNothingIsKept(t *testing.T) {
	const text, want = "0: 1 b; 1: 2; 2:; 3: a 2 1; 2: c; 1: d 0", "b$ b bcd -"
	g := grammar(4, text)
	l, other := follow.Follow(g), follow.Follow(g)
	clear(other[:cap(other)])
	_ = append(other[:0], 9, 9)
	tells(t, grammar(4, "3: 3; 3: 2 2; 2: 0; 0: 1; 1: e; 1:"), "e$ e$ e -")
	for i := range g.Prods {
		clear(g.Prods[i].Right)
		g.Prods[i].Left = 3
	}
	g.Nons, g.Start = 9, 2
	if !slices.Equal(l, sets(want)) {
		t.Error(l)
	}
	tells(t, grammar(4, text), want)
}
