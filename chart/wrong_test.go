package chart_test

import (
	"math"
	"slices"
	"testing"

	"probate/api"
	"probate/chart"
	"probate/gram"
	"probate/sound"
)

// none holds that a word has no sets, and stops nowhere, twice the same, and that the arguments stay as they were (R1, R3).
func none(t *testing.T, g api.Grammar, w []int) {
	t.Helper()
	oldG, oldW := gram.Clone(g), slices.Clone(w)
	for range 2 {
		if l := chart.Sets(g, w); l != nil {
			t.Fatalf("Sets(%v, %v): %v", g, w, l)
		}
		if at, bits, is := chart.Stop(g, w); at != 0 || bits != 0 || is {
			t.Fatalf("Stop(%v, %v): %d, %b, %v", g, w, at, bits, is)
		}
	}
	if !gram.Same(g, oldG) || !slices.Equal(w, oldW) {
		t.Fatalf("of %v, %v became %v, %v", oldG, oldW, g, w)
	}
}

// unsound holds that no word has sets of a grammar that isn't sound, for a reason: such that come, that don't, and that don't fit.
func unsound(t *testing.T, g api.Grammar, e api.Errno) {
	t.Helper()
	if _, got := sound.Check(g); got != e {
		t.Fatalf("%v: %v, not %v", g, got, e)
	}
	for _, w := range [][]int{nil, {}, {0}, {1}, {2, 0}, {0, 1, 0}, letters(as("a", api.MostWord)), letters(as("a", api.MostWord+1)), {-1}, {api.MostTerms}, {math.MinInt, math.MaxInt}} {
		none(t, g, w)
	}
}

// mayNot are grammars that may not be, by what is wrong with each; but for that most are sound.
func mayNot() map[string]api.Grammar {
	but := func(change func(g *api.Grammar)) api.Grammar {
		g := terms(3, of("0: a 1 0; 0: b; 1: c; 1:"))
		change(&g)
		return g
	}
	return map[string]api.Grammar{
		"the empty grammar":          {},
		"Terms below 0":              but(func(g *api.Grammar) { g.Terms = -1 }),
		"Terms below 0, alone":       {Terms: -1, Nons: 1, Prods: []api.Prod{{}}},
		"Terms far below 0":          {Terms: math.MinInt, Nons: 1, Prods: []api.Prod{{}}},
		"Terms one more":             but(func(g *api.Grammar) { g.Terms = api.MostTerms + 1 }),
		"Terms far more":             but(func(g *api.Grammar) { g.Terms = math.MaxInt }),
		"Nons below 0":               but(func(g *api.Grammar) { g.Nons = -1 }),
		"Nons far below 0":           but(func(g *api.Grammar) { g.Nons = math.MinInt }),
		"Nons 0":                     but(func(g *api.Grammar) { g.Nons = 0 }),
		"Nons one less":              but(func(g *api.Grammar) { g.Nons = 1 }),
		"Nons one more":              but(func(g *api.Grammar) { g.Nons = api.MostNons + 1 }),
		"Nons far more":              but(func(g *api.Grammar) { g.Nons = math.MaxInt }),
		"Start below 0":              but(func(g *api.Grammar) { g.Start = -1 }),
		"Start far below 0":          but(func(g *api.Grammar) { g.Start = math.MinInt }),
		"Start one more":             but(func(g *api.Grammar) { g.Start = 2 }),
		"Start far more":             but(func(g *api.Grammar) { g.Start = math.MaxInt }),
		"productions one more":       but(func(g *api.Grammar) { g.Prods = slices.Repeat(g.Prods, 16)[:api.MostProds+1] }),
		"empty productions one more": {Nons: 1, Prods: make([]api.Prod, api.MostProds+1)},
		"Left below 0":               but(func(g *api.Grammar) { g.Prods[3].Left = -1 }),
		"Left one more":              but(func(g *api.Grammar) { g.Prods[3].Left = 2 }),
		"Left MostNons":              but(func(g *api.Grammar) { g.Prods[3].Left = api.MostNons }),
		"Left far more":              but(func(g *api.Grammar) { g.Prods[3].Left = math.MaxInt }),
		"symbols one more":           but(func(g *api.Grammar) { g.Prods[2].Right = make([]api.Sym, api.MostRight+1) }),
		"a terminal below 0":         but(func(g *api.Grammar) { g.Prods[2].Right[0].N = -1 }),
		"a terminal one more":        but(func(g *api.Grammar) { g.Prods[2].Right[0].N = 3 }),
		"a terminal far more":        but(func(g *api.Grammar) { g.Prods[2].Right[0].N = math.MaxInt }),
		"a nonterminal below 0":      but(func(g *api.Grammar) { g.Prods[0].Right[2].N = -1 }),
		"a nonterminal one more":     but(func(g *api.Grammar) { g.Prods[0].Right[2].N = 2 }),
		"a nonterminal far below 0":  but(func(g *api.Grammar) { g.Prods[0].Right[2].N = math.MinInt }),
		"a nonterminal far more":     but(func(g *api.Grammar) { g.Prods[0].Right[2].N = math.MaxInt }),
		"all of it":                  {Terms: -1, Nons: -1, Start: -1, Prods: []api.Prod{{Left: -1, Right: []api.Sym{{N: -1}, {Non: true, N: -1}}}}},
	}
}

// P18.1, P18.2: no sets of a grammar that may not be.
func TestMayNotBe(t *testing.T) {
	for what, g := range mayNot() {
		if gram.Right(g) {
			t.Errorf("%s may be", what)
		}
		unsound(t, g, api.ErrArg)
	}
	goesOn(t, of("0: a 1 0; 0: b; 1: c; 1:"), "acb")
}

// P18.1, P18.2: no sets of a grammar in which no word comes of a nonterminal, be that Start, the last one, or one that no word needs.
func TestDead(t *testing.T) {
	for _, text := range []string{
		"0: a 0", "0: 0", "0: a; 0: b 1; 1: a 1", "0: a; 0: 1; 1: 1 a; 1: 1 b", "0:; 0: 1; 1: 2; 2: a 1",
		"0: 1; 1: a; 1: 2; 2: a 2", "0: 1 2; 1: a; 2: b 2 1", "0: a 1 2; 1: b; 2: 2 2",
	} {
		unsound(t, of(text), api.ErrDead)
	}
	unsound(t, grammar(1, ""), api.ErrDead)
	unsound(t, grammar(2, "0: a; 0: 1"), api.ErrDead)
	unsound(t, grammar(2, "0: a; 0: a 1 b; 0:"), api.ErrDead)
	unsound(t, grammar(api.MostNons, ring()), api.ErrDead)
	goesOn(t, of("0: a; 0: b 1; 1: a 1; 1:"), "a", "b", "ba")
}

// P18.1, P18.2: no sets of a grammar in which a nonterminal isn't reached.
func TestAlone(t *testing.T) {
	for _, text := range []string{
		"0: a; 1: b", "0:; 1:", "0: a 0; 0: b; 1: a 0", "0: 1; 1: a; 2: 1 0", "0: 1; 1: b; 2: a 3; 3: c 2; 3:", "0: 2; 1: a 2; 2: b",
	} {
		unsound(t, of(text), api.ErrAlone)
	}
	unsound(t, from(1, of("0: a 1; 1: b")), api.ErrAlone)
	goesOn(t, of("0: a 1; 1: b"), "ab")
}

// P18.1, P18.2: no sets of a left-recursive grammar, also behind what comes to nothing.
func TestLeftRecursive(t *testing.T) {
	for _, text := range []string{
		"0: 0 a; 0: a", "0: 0; 0: a", "0: a; 0: 0 0", "0: 1 a; 1: 0 b; 1: c", "0: 1; 1: 2; 2: 0; 2: a", "0: a 1; 1: 1 b; 1: c",
		"0: 1 0 a; 0: b; 1:", "0: 1 1 0; 0: b; 1: a; 1:", "0: 1 2 0 a; 0: b; 1: c; 1: 2; 2:", "0: a 1; 1: 2 3; 2: b; 2:; 3: 2 2 1; 3: c",
		"0: 1 1 1 1 1 1 1 0; 0:; 1:", "0: 0 0 0 0 0 0 0 0; 0:",
	} {
		unsound(t, of(text), api.ErrLeft)
	}
	goesOn(t, of("0: 1 0 a; 0: b; 1: c"), "cba")
	unsound(t, of("0: 1 0 a; 0: b; 1: c; 1:"), api.ErrLeft)
}

// P18.1, P18.2: no sets of a word with a token that is no terminal of the grammar, at the first, a middle and the last place, and alone.
func TestNoTerminal(t *testing.T) {
	for _, many := range []int{0, 1, 2, 3, api.MostTerms} {
		g := api.Grammar{Terms: many, Nons: 1, Prods: []api.Prod{{}}}
		for tok := range many {
			g.Prods = append(g.Prods, api.Prod{Right: []api.Sym{{N: tok}, {Non: true}}})
		}
		for _, wrong := range []int{-1, -2, -256, math.MinInt32, math.MinInt, many, many + 1, api.MostTerms, 255, 256, math.MaxInt32, 1 << 32, math.MaxInt} {
			none(t, g, []int{wrong})
			none(t, g, []int{wrong, wrong, wrong})
			for size := 1; size <= api.MostWord && many > 0; size++ {
				w := make([]int, size)
				for at := range w {
					w[at] = at % many
				}
				for _, at := range []int{0, size / 2, size - 1} {
					changed := slices.Clone(w)
					changed[at] = wrong
					none(t, g, changed)
				}
				if l := chart.Sets(g, w); len(l) != size+1 || len(l[size]) == 0 {
					t.Fatalf("Sets(%v, %v): %v", g, w, l)
				}
			}
		}
	}
	none(t, of("0: a b"), []int{1, -1}) // also where the word would stop ahead of it
	none(t, of("0: a b"), []int{2, 2, 2, api.MostTerms})
}

// P18.1, P18.2: no sets of a word of more than MostWord tokens, be it one that would come, or one that would stop.
func TestTooLong(t *testing.T) {
	g := of("0: a 0; 0: b; 0:")
	for _, more := range []int{1, 2, 8, 9, 100, 10000} {
		none(t, g, letters(as("a", api.MostWord+more)))
		none(t, g, letters(as("a", api.MostWord+more-1)+"b"))
		none(t, g, letters(as("c", api.MostWord+more)))
	}
	goesOn(t, g, as("a", api.MostWord), as("a", api.MostWord-1)+"b")
	stops(t, g, as("c", api.MostWord), 0, "ab$")
}
