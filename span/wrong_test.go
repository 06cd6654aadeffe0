package span_test

import (
	"math"
	"slices"
	"testing"

	"probate/api"
	"probate/gram"
	"probate/span"
)

// none holds that a word has no rows, twice the same, and that the arguments stay as they were; and One, of which the chapter doesn't speak then, tells nothing, but neither panics nor changes anything (R1, R3).
func none(t *testing.T, g api.Grammar, w []int) {
	t.Helper()
	oldG, oldW := gram.Clone(g), slices.Clone(w)
	behind := slices.Repeat([]span.Row{{Ends: [api.MostNons]uint32{math.MaxUint32, 5}, Over: math.MaxUint32}}, len(w))
	old := slices.Clone(behind)
	for range 2 {
		if l := span.Rows(g, w); l != nil {
			t.Fatalf("Rows(%v, %v): %v", g, w, l)
		}
		if row := span.One(g, w, behind); row != (span.Row{}) {
			t.Fatalf("One(%v, %v): %v", g, w, row)
		}
	}
	if !gram.Same(g, oldG) || !slices.Equal(w, oldW) || !slices.Equal(behind, old) {
		t.Fatalf("of %v, %v, %v became %v, %v, %v", oldG, oldW, old, g, w, behind)
	}
}

// unsound holds that no word has rows of a grammar that isn't sound.
func unsound(t *testing.T, g api.Grammar) {
	t.Helper()
	for _, w := range [][]int{nil, {}, {0}, {1}, {0, 1, 0}, letters(as("a", api.MostWord)), letters(as("a", api.MostWord+1)), {-1}, {api.MostTerms}, {math.MinInt, math.MaxInt}} {
		none(t, g, w)
	}
}

// mayNot are grammars that may not be, by what is wrong with each; but for that most are sound.
func mayNot() map[string]api.Grammar {
	but := func(change func(g *api.Grammar)) api.Grammar {
		g := grammar(2, "0: a 1 0; 0: b; 1: c; 1:")
		g.Terms = 3
		change(&g)
		return g
	}
	return map[string]api.Grammar{
		"the empty grammar":          {},
		"Terms below 0":              but(func(g *api.Grammar) { g.Terms = -1 }),
		"Terms below 0, alone":       {Terms: -1, Nons: 1, Prods: []api.Prod{{}}},
		"Terms far below 0":          {Terms: math.MinInt, Nons: 1, Prods: []api.Prod{{}}},
		"Terms one more":             but(func(g *api.Grammar) { g.Terms = api.MostTerms + 1 }),
		"Terms far more":             but(func(g *api.Grammar) { g.Terms = math.MaxInt }),
		"Nons below 0":               but(func(g *api.Grammar) { g.Nons = -1 }),
		"Nons far below 0":           but(func(g *api.Grammar) { g.Nons = math.MinInt }),
		"Nons 0":                     but(func(g *api.Grammar) { g.Nons = 0 }),
		"Nons one less":              but(func(g *api.Grammar) { g.Nons = 1 }),
		"Nons one more":              but(func(g *api.Grammar) { g.Nons = api.MostNons + 1 }),
		"Nons far more":              but(func(g *api.Grammar) { g.Nons = math.MaxInt }),
		"Start below 0":              but(func(g *api.Grammar) { g.Start = -1 }),
		"Start far below 0":          but(func(g *api.Grammar) { g.Start = math.MinInt }),
		"Start one more":             but(func(g *api.Grammar) { g.Start = 2 }),
		"Start far more":             but(func(g *api.Grammar) { g.Start = math.MaxInt }),
		"productions one more":       but(func(g *api.Grammar) { g.Prods = slices.Repeat(g.Prods, 16)[:api.MostProds+1] }),
		"empty productions one more": {Nons: 1, Prods: make([]api.Prod, api.MostProds+1)},
		"Left below 0":               but(func(g *api.Grammar) { g.Prods[3].Left = -1 }),
		"Left one more":              but(func(g *api.Grammar) { g.Prods[3].Left = 2 }),
		"Left MostNons":              but(func(g *api.Grammar) { g.Prods[3].Left = api.MostNons }),
		"Left far more":              but(func(g *api.Grammar) { g.Prods[3].Left = math.MaxInt }),
		"symbols one more":           but(func(g *api.Grammar) { g.Prods[2].Right = make([]api.Sym, api.MostRight+1) }),
		"a terminal below 0":         but(func(g *api.Grammar) { g.Prods[2].Right[0].N = -1 }),
		"a terminal one more":        but(func(g *api.Grammar) { g.Prods[2].Right[0].N = 3 }),
		"a terminal far more":        but(func(g *api.Grammar) { g.Prods[2].Right[0].N = math.MaxInt }),
		"a nonterminal below 0":      but(func(g *api.Grammar) { g.Prods[0].Right[2].N = -1 }),
		"a nonterminal one more":     but(func(g *api.Grammar) { g.Prods[0].Right[2].N = 2 }),
		"a nonterminal far below 0":  but(func(g *api.Grammar) { g.Prods[0].Right[2].N = math.MinInt }),
		"a nonterminal far more":     but(func(g *api.Grammar) { g.Prods[0].Right[2].N = math.MaxInt }),
		"all of it":                  {Terms: -1, Nons: -1, Start: -1, Prods: []api.Prod{{Left: -1, Right: []api.Sym{{N: -1}, {Non: true, N: -1}}}}},
	}
}

// P16.1: none for a grammar that may not be.
func TestMayNotBe(t *testing.T) {
	for what, g := range mayNot() {
		if gram.Right(g) {
			t.Errorf("%s may be", what)
		}
		unsound(t, g)
	}
	g := grammar(2, "0: a 1 0; 0: b; 1: c; 1:")
	tells(t, g, "acb", "3 0 | 0; - 01 |; 1 0 | 0; - 0 | 0 1")
}

// P16.1: none for a grammar in which no word comes of a nonterminal, be that Start, the last one, or one that no word needs.
func TestDead(t *testing.T) {
	for _, text := range []string{
		"0: a 0", "0: 0", "0: a; 0: b 1; 1: a 1", "0: a; 0: 1; 1: 1 a; 1: 1 b", "0:; 0: 1; 1: 2; 2: a 1",
		"0: 1; 1: a; 1: 2; 2: a 2", "0: 1 2; 1: a; 2: b 2 1", "0: a 1 2; 1: b; 2: 2 2",
	} {
		unsound(t, grammar(nonsOf(text), text))
	}
	unsound(t, grammar(1, ""))
	unsound(t, grammar(2, "0: a; 0: 1"))
	unsound(t, grammar(2, "0: a; 0: a 1 b; 0:"))
	unsound(t, grammar(api.MostNons, ring()))
}

// P16.1: none for a grammar in which a nonterminal isn't reached.
func TestAlone(t *testing.T) {
	for _, text := range []string{
		"0: a; 1: b", "0:; 1:", "0: a 0; 0: b; 1: a 0", "0: 1; 1: a; 2: 1 0", "0: 1; 1: b; 2: a 3; 3: c 2; 3:", "0: 2; 1: a 2; 2: b",
	} {
		unsound(t, grammar(nonsOf(text), text))
	}
	unsound(t, from(1, grammar(2, "0: a 1; 1: b")))
	tells(t, from(0, grammar(2, "0: a 1; 1: b")), "ab", "2 - | 0; - 1 | 1; - - | 0 1")
}

// P16.1: none for a left-recursive grammar, also behind what comes to nothing.
func TestLeftRecursive(t *testing.T) {
	for _, text := range []string{
		"0: 0 a; 0: a", "0: 0; 0: a", "0: a; 0: 0 0", "0: 1 a; 1: 0 b; 1: c", "0: 1; 1: 2; 2: 0; 2: a", "0: a 1; 1: 1 b; 1: c",
		"0: 1 0 a; 0: b; 1:", "0: 1 1 0; 0: b; 1: a; 1:", "0: 1 2 0 a; 0: b; 1: c; 1: 2; 2:", "0: a 1; 1: 2 3; 2: b; 2:; 3: 2 2 1; 3: c",
		"0: 1 1 1 1 1 1 1 0; 0:; 1:", "0: 0 0 0 0 0 0 0 0; 0:",
	} {
		unsound(t, grammar(nonsOf(text), text))
	}
	tells(t, grammar(2, "0: 1 0 a; 0: b; 1: c"), "cba", "3 1 | 0; 1 - |; - - |; - - | 0 1")
	unsound(t, grammar(2, "0: 1 0 a; 0: b; 1: c; 1:"))
}

// P16.1: none for a word with a token that is no terminal of the grammar, at the first, a middle and the last place, and alone.
func TestNoTerminal(t *testing.T) {
	for _, terms := range []int{0, 1, 2, 3, api.MostTerms} {
		g := api.Grammar{Terms: terms, Nons: 1, Prods: []api.Prod{{}}}
		for tok := range terms {
			g.Prods = append(g.Prods, api.Prod{Right: []api.Sym{{N: tok}, {Non: true}}})
		}
		for _, wrong := range []int{-1, -2, -256, math.MinInt32, math.MinInt, terms, terms + 1, api.MostTerms, 255, 256, math.MaxInt32, 1 << 32, math.MaxInt} {
			none(t, g, []int{wrong})
			none(t, g, []int{wrong, wrong, wrong})
			if terms == 0 {
				continue
			}
			for many := 1; many <= api.MostWord; many++ {
				w := make([]int, many)
				for at := range w {
					w[at] = at % terms
				}
				for _, at := range []int{0, many / 2, many - 1} {
					changed := slices.Clone(w)
					changed[at] = wrong
					none(t, g, changed)
				}
				if l := span.Rows(g, w); len(l) != many+1 || l[0].Ends[0] != 1<<(many+1)-1 {
					t.Fatalf("Rows(%v, %v): %v", g, w, l)
				}
			}
		}
	}
}

// P16.1: none for a word of more than MostWord tokens.
func TestTooLong(t *testing.T) {
	g := grammar(1, "0: a 0; 0: b; 0:")
	for _, more := range []int{1, 2, 8, 9, 100, 10000} {
		none(t, g, letters(as("a", api.MostWord+more)))
		none(t, g, letters(as("a", api.MostWord+more-1)+"b"))
		none(t, g, letters(as("c", api.MostWord+more)))
	}
	if l := span.Rows(g, letters(as("a", api.MostWord))); len(l) != api.MostWord+1 || l[0].Ends[0] != 1<<(api.MostWord+1)-1 {
		t.Errorf("Rows of MostWord tokens: %v", l)
	}
}

// R1: of arguments of which the chapter doesn't speak One tells nothing, and doesn't panic: too few rows, and too many.
func TestOneOfOtherRows(t *testing.T) {
	g := grammar(2, "0: a 1 0; 0: b; 1: c; 1:")
	for many := range api.MostWord + 1 {
		w := letters(as("a", many))
		rows := span.Rows(g, w)
		for _, behind := range [][]span.Row{nil, {}, rows, rows[many:], append(rows, rows...), make([]span.Row, 1000)} {
			if len(behind) == many {
				continue
			}
			if row := span.One(g, w, behind); row != (span.Row{}) {
				t.Errorf("One(%v, %v, %v): %v", g, w, behind, row)
			}
		}
		full := slices.Repeat([]span.Row{{Over: math.MaxUint32}}, many) // rows that may not be
		for i := range full {
			for non := range full[i].Ends {
				full[i].Ends[non] = math.MaxUint32
			}
		}
		span.One(g, w, full)
	}
}
