package lead_test

import (
	"math"
	"slices"
	"testing"

	"probate/api"
	"probate/gram"
	"probate/lead"
	"probate/sound"
	"probate/span"
)

// noKinds are none of the kinds.
var noKinds = []int{-1, -2, 3, 4, 255, 256, 257, 258, math.MinInt32, math.MaxInt32, 1 << 32, 1<<32 + 1, 1<<32 + 2, math.MinInt, math.MinInt + 1, math.MinInt + 2, math.MaxInt}

// fails holds that there is no derivation of a word in a kind, and why.
func fails(t *testing.T, g api.Grammar, w []int, kind int, e api.Errno) {
	t.Helper()
	holds(t, g, w, kind, nil, e)
}

// wrong holds ErrArg for a word that has no rows, in each kind, and in what is none.
func wrong(t *testing.T, g api.Grammar, w []int) {
	t.Helper()
	if span.Rows(g, w) != nil {
		t.Fatalf("of %v, %v has rows", g, w)
	}
	for _, kind := range slices.Concat(kinds, noKinds) {
		fails(t, g, w, kind, api.ErrArg)
	}
}

// unsound holds ErrArg for words of a grammar that isn't sound, for a reason: such that come, that don't, and that don't fit.
func unsound(t *testing.T, g api.Grammar, e api.Errno) {
	t.Helper()
	if _, got := sound.Check(g); got != e {
		t.Fatalf("%v: %v, not %v", g, got, e)
	}
	for _, w := range [][]int{nil, {}, {0}, {1}, {2, 0}, {0, 1, 0}, letters(as("a", api.MostWord)), letters(as("a", api.MostWord+1)), {-1}, {api.MostTerms}, {math.MinInt, math.MaxInt}} {
		wrong(t, g, w)
	}
}

// P17.1, R2: ErrArg for what is none of the kinds, whether there is a derivation, none, or too long a one.
func TestNoKind(t *testing.T) {
	for _, g := range []api.Grammar{of("0: a 0; 0:"), of("0: b; 0: a b"), of("0: 1 1; 1: a; 1:"), sized("", "", api.MostSteps+1), {Nons: 1, Prods: []api.Prod{{}}}} {
		for _, w := range [][]int{nil, {}, {0}, {1}, {0, 0}, {0, 1}, letters(as("a", api.MostWord))} {
			for _, kind := range noKinds {
				fails(t, g, w, kind, api.ErrArg)
			}
		}
	}
	for _, kind := range kinds {
		holds(t, of("0: a 0; 0:"), []int{0}, kind, []int{0, 1}, api.OK)
	}
}

// mayNot are grammars that may not be, by what is wrong with each; but for that most are sound.
func mayNot() map[string]api.Grammar {
	but := func(change func(g *api.Grammar)) api.Grammar {
		g := grammar(2, "0: a 1 0; 0: b; 1: c; 1:")
		g.Terms = 3
		change(&g)
		return g
	}
	return map[string]api.Grammar{
		"the empty grammar":         {},
		"Terms below 0":             but(func(g *api.Grammar) { g.Terms = -1 }),
		"Terms far below 0":         {Terms: math.MinInt, Nons: 1, Prods: []api.Prod{{}}},
		"Terms one more":            but(func(g *api.Grammar) { g.Terms = api.MostTerms + 1 }),
		"Terms far more":            but(func(g *api.Grammar) { g.Terms = math.MaxInt }),
		"Nons below 0":              but(func(g *api.Grammar) { g.Nons = -1 }),
		"Nons far below 0":          but(func(g *api.Grammar) { g.Nons = math.MinInt }),
		"Nons 0":                    but(func(g *api.Grammar) { g.Nons = 0 }),
		"Nons one less":             but(func(g *api.Grammar) { g.Nons = 1 }),
		"Nons one more":             but(func(g *api.Grammar) { g.Nons = api.MostNons + 1 }),
		"Nons far more":             but(func(g *api.Grammar) { g.Nons = math.MaxInt }),
		"Start below 0":             but(func(g *api.Grammar) { g.Start = -1 }),
		"Start far below 0":         but(func(g *api.Grammar) { g.Start = math.MinInt }),
		"Start one more":            but(func(g *api.Grammar) { g.Start = 2 }),
		"Start far more":            but(func(g *api.Grammar) { g.Start = math.MaxInt }),
		"productions one more":      but(func(g *api.Grammar) { g.Prods = slices.Repeat(g.Prods, 16)[:api.MostProds+1] }),
		"Left below 0":              but(func(g *api.Grammar) { g.Prods[3].Left = -1 }),
		"Left one more":             but(func(g *api.Grammar) { g.Prods[3].Left = 2 }),
		"Left far more":             but(func(g *api.Grammar) { g.Prods[3].Left = math.MaxInt }),
		"symbols one more":          but(func(g *api.Grammar) { g.Prods[2].Right = make([]api.Sym, api.MostRight+1) }),
		"a terminal below 0":        but(func(g *api.Grammar) { g.Prods[2].Right[0].N = -1 }),
		"a terminal one more":       but(func(g *api.Grammar) { g.Prods[2].Right[0].N = 3 }),
		"a terminal far more":       but(func(g *api.Grammar) { g.Prods[2].Right[0].N = math.MaxInt }),
		"a nonterminal below 0":     but(func(g *api.Grammar) { g.Prods[0].Right[2].N = -1 }),
		"a nonterminal one more":    but(func(g *api.Grammar) { g.Prods[0].Right[2].N = 2 }),
		"a nonterminal far below 0": but(func(g *api.Grammar) { g.Prods[0].Right[2].N = math.MinInt }),
		"a nonterminal far more":    but(func(g *api.Grammar) { g.Prods[0].Right[2].N = math.MaxInt }),
		"all of it":                 {Terms: -1, Nons: -1, Start: -1, Prods: []api.Prod{{Left: -1, Right: []api.Sym{{N: -1}, {Non: true, N: -1}}}}},
	}
}

// P17.1: ErrArg for a grammar that may not be.
func TestMayNotBe(t *testing.T) {
	for what, g := range mayNot() {
		if gram.Right(g) {
			t.Errorf("%s may be", what)
		}
		unsound(t, g, api.ErrArg)
	}
	both(t, of("0: a 1 0; 0: b; 1: c; 1:"), "acb", "0 2 1", "0 2 1")
}

// P17.1: ErrArg for a grammar in which no word comes of a nonterminal, be that Start, the last one, or one that no word needs.
func TestDead(t *testing.T) {
	for _, text := range []string{
		"0: a 0", "0: 0", "0: a; 0: b 1; 1: a 1", "0: a; 0: 1; 1: 1 a; 1: 1 b", "0:; 0: 1; 1: 2; 2: a 1",
		"0: 1; 1: a; 1: 2; 2: a 2", "0: 1 2; 1: a; 2: b 2 1", "0: a 1 2; 1: b; 2: 2 2",
	} {
		unsound(t, of(text), api.ErrDead)
	}
	unsound(t, grammar(1, ""), api.ErrDead)
	unsound(t, grammar(2, "0: a; 0: a 1 b; 0:"), api.ErrDead)
}

// P17.1: ErrArg for a grammar in which a nonterminal isn't reached.
func TestAlone(t *testing.T) {
	for _, text := range []string{
		"0: a; 1: b", "0:; 1:", "0: a 0; 0: b; 1: a 0", "0: 1; 1: a; 2: 1 0", "0: 1; 1: b; 2: a 3; 3: c 2; 3:", "0: 2; 1: a 2; 2: b",
	} {
		unsound(t, of(text), api.ErrAlone)
	}
	unsound(t, from(1, of("0: a 1; 1: b")), api.ErrAlone)
	both(t, of("0: a 1; 1: b"), "ab", "0 1", "0 1")
}

// P17.1: ErrArg for a left-recursive grammar, also behind what comes to nothing.
func TestLeftRecursive(t *testing.T) {
	for _, text := range []string{
		"0: 0 a; 0: a", "0: 0; 0: a", "0: a; 0: 0 0", "0: 1 a; 1: 0 b; 1: c", "0: 1; 1: 2; 2: 0; 2: a", "0: a 1; 1: 1 b; 1: c",
		"0: 1 0 a; 0: b; 1:", "0: 1 1 0; 0: b; 1: a; 1:", "0: 1 2 0 a; 0: b; 1: c; 1: 2; 2:", "0: a 1; 1: 2 3; 2: b; 2:; 3: 2 2 1; 3: c",
		"0: 1 1 1 1 1 1 1 0; 0:; 1:", "0: 0 0 0 0 0 0 0 0; 0:",
	} {
		unsound(t, of(text), api.ErrLeft)
	}
	both(t, of("0: 1 0 a; 0: b; 1: c"), "cba", "0 2 1", "0 2 1")
	unsound(t, of("0: 1 0 a; 0: b; 1: c; 1:"), api.ErrLeft)
}

// P17.1: ErrArg for a word with a token that is no terminal of the grammar, at the first, a middle and the last place, and alone.
func TestNoTerminal(t *testing.T) {
	for _, terms := range []int{0, 1, 2, 3, api.MostTerms} {
		g := api.Grammar{Terms: terms, Nons: 1, Prods: []api.Prod{{}}}
		for tok := range terms {
			g.Prods = append(g.Prods, api.Prod{Right: []api.Sym{{N: tok}, {Non: true}}})
		}
		for _, none := range []int{-1, -2, -256, math.MinInt32, math.MinInt, terms, terms + 1, api.MostTerms, 255, 256, math.MaxInt32, 1 << 32, math.MaxInt} {
			wrong(t, g, []int{none})
			for many := 1; many <= api.MostWord && terms > 0; many += 1 + many/3 {
				w, want := make([]int, many), []int{}
				for at := range w {
					w[at] = at % terms
					want = append(want, 1+w[at])
				}
				for _, at := range []int{0, many / 2, many - 1} {
					changed := slices.Clone(w)
					changed[at] = none
					wrong(t, g, changed)
				}
				for _, kind := range kinds {
					holds(t, g, w, kind, append(want, 0), api.OK)
				}
			}
		}
	}
}

// P17.1: ErrArg for a word of more than MostWord tokens, be it one that would come, one that wouldn't, or one whose derivation would be too long.
func TestTooLong(t *testing.T) {
	g := of("0: a 0; 0: b; 0:")
	for _, more := range []int{1, 2, 8, 9, 100, 10000} {
		wrong(t, g, letters(as("a", api.MostWord+more)))
		wrong(t, g, letters(as("a", api.MostWord+more-1)+"b"))
		wrong(t, g, letters(as("c", api.MostWord+more)))
		wrong(t, eights("a"), letters(as("a", api.MostWord+more)))
	}
	for _, kind := range kinds {
		holds(t, g, letters(as("a", api.MostWord-1)+"b"), kind, append(times(api.MostWord-1, 0), 1), api.OK)
		fails(t, g, letters(as("c", api.MostWord)), kind, api.ErrNone)
	}
}

// none holds that no derivation is told of words of letters, in some kinds, and that none is worked out.
func none(t *testing.T, text string, g api.Grammar, in ...int) {
	t.Helper()
	w := letters(text)
	for _, kind := range in {
		if own, e := byParts(g, w, kind); e != api.ErrNone || bySearch(g, w, kind) != nil {
			t.Fatalf("of %v, %s, in kind %d: worked out %v, %v", g, text, kind, own, e)
		}
		fails(t, g, w, kind, api.ErrNone)
	}
}

// P17.1: ErrNone for a word that doesn't come, for Least and Greatest: with which none begins, and for these two alone, with which one does.
func TestNone(t *testing.T) {
	for _, c := range []struct {
		text  string
		no    []string // none begins with these
		begin []string // these are only the beginnings of one
	}{
		{"0: a", []string{"b", "aa", "ab", "p", as("a", api.MostWord)}, []string{""}},
		{"0:", []string{"a", "b", "p", "aa", as("a", api.MostWord)}, nil},
		{"0: a b c", []string{"b", "aa", "aba", "abb", "abca", "abcabc", "ac"}, []string{"", "a", "ab"}},
		{"0: a b c d e f g h", []string{"abcdefgg", "abcdefghh", "bcdefgh"}, []string{"", "a", "abc", "abcdefg"}},
		{"0: a 0; 0: b", []string{"c", "ba", "bb", "aba", as("a", api.MostWord-2) + "bb"}, []string{"", "a", "aa", as("a", api.MostWord)}},
		{"0: a 0 b; 0:", []string{"b", "abb", "aba", "aabba"}, []string{"a", "aa", "aab", as("a", api.MostWord), as("a", api.MostWord-1) + "b"}},
		{"0: 1 1; 1: a; 1: a a", []string{"b", "aaaaa", "aab", "ba"}, []string{"", "a"}},
		{"0: a b; 0: a c d; 0: e", []string{"b", "abb", "acc", "acdd", "ee"}, []string{"", "a", "ac"}},
		{"0: a a 0; 0:", []string{"b", "ab", "aab"}, []string{"a", "aaa", as("a", api.MostWord-1)}},
		{"0: 1 2 1; 1: a 1; 1:; 2: b", []string{"bb", "aabb", "baab", "c"}, []string{"", "a", "aa"}},
		{"0: 1 c; 1: a; 1: b; 1:", []string{"d", "aa", "ab", "cc", "acc"}, []string{"", "a", "b"}},
	} {
		g := of(c.text)
		for _, w := range c.no {
			none(t, w, g, kinds...)
		}
		for _, w := range c.begin {
			none(t, w, g, lead.Least, lead.Greatest)
			if l := beginning(g, letters(w)); l == nil {
				t.Errorf("of %s comes none that begins with %s", c.text, w)
			} else {
				holds(t, g, letters(w), lead.Begin, l, api.OK)
			}
		}
	}
}

// P17.1, R2: ErrNone of a word that doesn't come, also where another word's derivation is too long.
func TestNoneAheadOfBig(t *testing.T) {
	g := sized("a", "", api.MostSteps+1)
	for _, kind := range kinds {
		fails(t, g, letters("b"), kind, api.ErrNone)
		fails(t, g, letters("aa"), kind, api.ErrNone)
		fails(t, g, letters("a"), kind, api.ErrBig)
	}
	fails(t, g, nil, lead.Least, api.ErrNone)
	fails(t, g, nil, lead.Greatest, api.ErrNone)
	fails(t, g, nil, lead.Begin, api.ErrBig)
	g = eights("b")
	for _, kind := range kinds {
		fails(t, g, letters("a"), kind, api.ErrNone)
		fails(t, g, letters(as("b", 9)), kind, api.ErrBig)
	}
}
