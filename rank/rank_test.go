package rank_test

import (
	"math"
	"slices"
	"strconv"
	"strings"
	"testing"

	"probate/api"
	"probate/gram"
	"probate/rank"
)

// grammar is one of so many nonterminals, and of productions parted by ";": numbers are nonterminals, and letters, from a on, terminals.
func grammar(nons int, text string) api.Grammar {
	g := api.Grammar{Terms: api.MostTerms, Nons: nons}
	for _, line := range strings.Split(text, ";") {
		left, right, ok := strings.Cut(line, ":")
		if !ok {
			continue
		}
		p := api.Prod{Left: number(left)}
		for _, s := range strings.Fields(right) {
			if s[0] >= 'a' {
				p.Right = append(p.Right, api.Sym{N: int(s[0] - 'a')})
			} else {
				p.Right = append(p.Right, api.Sym{Non: true, N: number(s)})
			}
		}
		g.Prods = append(g.Prods, p)
	}
	return g
}

func number(text string) int {
	n, err := strconv.Atoi(strings.TrimSpace(text))
	if err != nil {
		panic(err)
	}
	return n
}

// facts are those of a text: a Rank, /, and a Prod; - is 0/0.
func facts(text string) []api.Fact {
	var l []api.Fact
	for _, f := range strings.Fields(text) {
		if f == "-" {
			f = "0/0"
		}
		r, p, _ := strings.Cut(f, "/")
		l = append(l, api.Fact{Rank: number(r), Prod: number(p)})
	}
	return l
}

// told holds what a function tells of a grammar, that it tells it again when what it told was changed, and that the grammar stays as it was (R3, R4).
func told(t *testing.T, name string, of func(api.Grammar) []api.Fact, g api.Grammar, want []api.Fact) {
	t.Helper()
	before := gram.Clone(g)
	for range 3 {
		l := of(g)
		if l == nil || !slices.Equal(l, want) {
			t.Errorf("%s of %v: %v, not %v", name, g, l, want)
			return
		}
		for i := range l {
			l[i] = api.Fact{Rank: 77, Prod: -77}
		}
		_ = append(l, api.Fact{Rank: 88})
		if !gram.Same(g, before) {
			t.Errorf("%s changed %v to %v", name, before, g)
			return
		}
	}
}

// tells holds both: what is told without terminals, and with them.
func tells(t *testing.T, g api.Grammar, nullable, productive string) {
	t.Helper()
	told(t, "Nullable", rank.Nullable, g, facts(nullable))
	told(t, "Productive", rank.Productive, g, facts(productive))
}

// P9.1: the chapter's example, fact by fact.
func TestExample(t *testing.T) {
	g := api.Grammar{Terms: 1, Nons: 3, Prods: []api.Prod{
		{Left: 0, Right: []api.Sym{{Non: true, N: 1}, {Non: true, N: 1}}},
		{Left: 1},
		{Left: 2, Right: []api.Sym{{N: 0}}},
	}}
	l := rank.Nullable(g)
	if len(l) != 3 || l[0] != (api.Fact{Rank: 2, Prod: 0}) || l[1] != (api.Fact{Rank: 1, Prod: 1}) || l[2] != (api.Fact{}) {
		t.Errorf("Nullable: %v", l)
	}
	l = rank.Productive(g)
	if len(l) != 3 || l[0] != (api.Fact{Rank: 2, Prod: 0}) || l[1] != (api.Fact{Rank: 1, Prod: 1}) || l[2] != (api.Fact{Rank: 1, Prod: 2}) {
		t.Errorf("Productive: %v", l)
	}
	if g.Terms = api.MostTerms; !gram.Same(g, grammar(3, "0: 1 1; 1:; 2: a")) {
		t.Error("a grammar isn't what its text says")
	}
}

// P9.1: of a production of no symbols the rank is 1, also with other productions ahead of it and behind it; R6: whether the list is nil or empty.
func TestNoSymbols(t *testing.T) {
	tells(t, grammar(1, "0:"), "1/0", "1/0")
	tells(t, grammar(1, "0: 0; 0:"), "1/1", "1/1")
	tells(t, grammar(1, "0:; 0: 0"), "1/0", "1/0")
	tells(t, grammar(1, "0: a; 0:; 0: b"), "1/1", "1/0")
	tells(t, grammar(1, "0: 0 0; 0: a 0; 0: 0 a; 0:; 0: 0"), "1/3", "1/3")
	tells(t, grammar(2, "0: 1; 1: 0; 0:; 1: 1; 1:"), "1/2 1/4", "1/2 1/4")
	tells(t, grammar(3, "0: 1 2; 0: 1; 0: 2; 0:; 1:; 2:"), "1/3 1/4 1/5", "1/3 1/4 1/5")
	empty := grammar(2, "1: 0; 0:; 0: a")
	empty.Prods[1].Right = []api.Sym{}
	tells(t, empty, "1/1 2/0", "1/1 2/0")
}

// P9.1: 1 more than the greatest rank in a production, and the least over the productions.
func TestHangsOnSeveral(t *testing.T) {
	const low = "1:; 2: 1; 3: 2; 4: 3;" // of ranks 1 to 4
	for right, want := range map[string]string{
		"0: 1": "2/4", "0: 4": "5/4", "0: 1 4": "5/4", "0: 4 1": "5/4", "0: 1 2 3": "4/4", "0: 3 2 1": "4/4",
		"0: 2 3 1 1": "4/4", "0: 1 1 1 1 1 1 1 4": "5/4", "0: 4 1 1 1 1 1 1 1": "5/4", "0: 2 2 2 2 2 2 2 2": "3/4",
		"0: 4; 0: 3; 0: 2": "3/6", "0: 2; 0: 3; 0: 4": "3/4", "0: 3; 0: 2; 0: 4": "3/5", "0: 1 4; 0: 3 2; 0: 4 1": "4/5",
		"0: 4 0; 0: 1 0; 0: 1 3": "4/6", "0: 4; 0: 4; 0: 3 5": "5/4",
	} {
		all := want + " 1/0 2/1 3/2 4/3 -"
		tells(t, grammar(6, low+right), all, all)
		tells(t, grammar(6, strings.Replace(low, "1:", "1: a", 1)+right), "- - - - - -", all)
	}
	tells(t, grammar(5, "0: 1 2; 1: 3 4; 2: 4 4 4; 3: 4; 4:"), "4/0 3/1 2/2 2/3 1/4", "4/0 3/1 2/2 2/3 1/4")
}

// P9.1: of productions that tell one rank, that of the least number; a lesser rank goes ahead of a lesser number.
func TestLeastNumber(t *testing.T) {
	tells(t, grammar(1, "0:; 0:"), "1/0", "1/0")
	tells(t, grammar(1, "0: a; 0: a"), "-", "1/0")
	tells(t, grammar(1, "0: a;"+strings.Repeat("0: 0;", 57)+"0:; 0:"), "1/58", "1/0")
	tells(t, grammar(3, "0: 1; 0: 2; 1:; 2:"), "2/0 1/2 1/3", "2/0 1/2 1/3")
	tells(t, grammar(3, "0: 2; 0: 1; 1:; 2:"), "2/0 1/2 1/3", "2/0 1/2 1/3")
	tells(t, grammar(3, "2:; 1:; 0: 2 1; 0: 2; 0: 1 1"), "2/2 1/1 1/0", "2/2 1/1 1/0")
	tells(t, grammar(3, "0: 1; 0: 2; 1: 2; 2:"), "2/1 2/2 1/3", "2/1 2/2 1/3")
	tells(t, grammar(3, "0: 2; 0: 1; 1: 2; 2:"), "2/0 2/2 1/3", "2/0 2/2 1/3")
	tells(t, grammar(2, "0: 1; 0:; 1:"), "1/1 1/2", "1/1 1/2")
	tells(t, grammar(2, "0: 1; 0: a; 1:"), "2/0 1/2", "1/1 1/2")
	tells(t, grammar(2, "0: a 1; 0: 1; 1: b; 1:"), "2/1 1/3", "2/0 1/2")
	tells(t, grammar(4, "0: 1; 0: 1 2; 0: 3 2; 0: 2 2; 1: 2; 2: 3; 2:; 3:"), "2/2 2/4 1/6 1/7", "2/2 2/4 1/6 1/7")
}

// P9.1: nonterminals that call themselves, and each other, alone and beside a production that ends.
func TestCalls(t *testing.T) {
	tells(t, grammar(1, "0: 0"), "-", "-")
	tells(t, grammar(1, "0: 0 0; 0: a 0; 0: 0"), "-", "-")
	tells(t, grammar(1, "0: 0; 0: a"), "-", "1/1")
	tells(t, grammar(1, "0: 0; 0: a 0; 0:"), "1/2", "1/2")
	tells(t, grammar(2, "0: 1; 1: 0"), "- -", "- -")
	tells(t, grammar(2, "0: 1 a; 1: a 0; 0: 0 1; 1: 1 0"), "- -", "- -")
	tells(t, grammar(2, "0: 1; 1: 0; 1:"), "2/0 1/2", "2/0 1/2")
	tells(t, grammar(2, "0: 1; 1: 0; 0:"), "1/2 2/1", "1/2 2/1")
	tells(t, grammar(2, "0: 1; 1: 0; 1: b"), "- -", "2/0 1/2")
	tells(t, grammar(3, "0: 1; 1: 2; 2: 0"), "- - -", "- - -")
	tells(t, grammar(3, "0: 1; 1: 2; 2: 0; 1:"), "2/0 1/3 3/2", "2/0 1/3 3/2")
	tells(t, grammar(3, "0: 1 0; 0: 1; 1: 2 1; 1: 2; 2: 2; 2:"), "3/1 2/3 1/5", "3/1 2/3 1/5")
	tells(t, grammar(3, "0: 0 1; 1: 2; 2:"), "- 2/1 1/2", "- 2/1 1/2")
}

// P9.1: with a terminal in its production, be it one symbol of several, a nonterminal has no rank without terminals.
func TestTerminals(t *testing.T) {
	tells(t, grammar(1, "0: a"), "-", "1/0")
	tells(t, grammar(1, "0: a b p"), "-", "1/0")
	tells(t, grammar(1, "0: a a a a a a a a"), "-", "1/0")
	tells(t, grammar(2, "0: a 1; 1:"), "- 1/1", "2/0 1/1")
	tells(t, grammar(2, "0: 1 a; 1:"), "- 1/1", "2/0 1/1")
	tells(t, grammar(2, "0: 1 a 1; 1: b"), "- -", "2/0 1/1")
	tells(t, grammar(2, "0: 1 1 1 1 1 1 1 a; 1:"), "- 1/1", "2/0 1/1")
	tells(t, grammar(2, "0: a 1; 1: a 0"), "- -", "- -")
	tells(t, grammar(2, "0: a 1; 1: a"), "- -", "2/0 1/1")
	tells(t, grammar(3, "0: 1 2; 1: a; 2:"), "- - 1/2", "2/0 1/1 1/2")
	tells(t, grammar(3, "0: 1; 0: 2 2; 1: a; 2: 1; 2: b 1; 2: 2"), "- - -", "2/0 1/2 2/3")
	tells(t, grammar(3, "0: 1 a; 0: 1 2; 1: 2; 2:; 2: c"), "3/1 2/2 1/3", "3/0 2/2 1/3")
}

// chain is one in which each nonterminal calls the next, and the last one's production ends so; it is told by what becomes of each number.
func chain(end string, of func(non int) int) string {
	var b strings.Builder
	for i := range api.MostNons - 1 {
		b.WriteString(strconv.Itoa(of(i)) + ": " + strconv.Itoa(of(i+1)) + ";")
	}
	b.WriteString(strconv.Itoa(of(api.MostNons-1)) + ":" + end)
	return b.String()
}

// P9.1: ranks up to MostNons, in rising and in falling order, of nonterminals and of productions.
func TestChains(t *testing.T) {
	const last = api.MostNons - 1
	none := strings.Repeat("- ", api.MostNons)
	for _, up := range []bool{true, false} {
		of := func(non int) int { return non }
		if !up {
			of = func(non int) int { return last - non }
		}
		for _, back := range []bool{false, true} {
			want := make([]string, api.MostNons)
			for i := range want {
				prod := i
				if back {
					prod = last - i
				}
				want[of(i)] = strconv.Itoa(api.MostNons-i) + "/" + strconv.Itoa(prod)
			}
			all := strings.Join(want, " ")
			for end, nullable := range map[string]string{"": all, "a": none} {
				g := grammar(api.MostNons, chain(end, of))
				if back {
					slices.Reverse(g.Prods)
				}
				tells(t, g, nullable, all)
			}
			g := grammar(api.MostNons, chain(strconv.Itoa(of(0)), of))
			tells(t, g, none, none)
		}
	}
}

// P9.1: who is farthest from the end of a chain may have another way, at each place of it.
func TestChainsCutShort(t *testing.T) {
	for i := range api.MostNons {
		g := grammar(api.MostNons, chain("", func(non int) int { return non }))
		g.Prods = append(g.Prods, api.Prod{Left: i})
		want := make([]api.Fact, api.MostNons)
		for non := range want {
			want[non] = api.Fact{Rank: api.MostNons - non, Prod: non}
			if non <= i {
				want[non].Rank = i - non + 1
			}
		}
		if i < api.MostNons-1 {
			want[i].Prod = api.MostNons
		}
		told(t, "Nullable", rank.Nullable, g, want)
		told(t, "Productive", rank.Productive, g, want)
	}
}

// P9.1: a nonterminal of no production, and one of none that ends, are of Rank 0 and Prod 0, wherever they stand.
func TestNoRank(t *testing.T) {
	tells(t, grammar(2, "0:"), "1/0 -", "1/0 -")
	tells(t, grammar(2, "1:"), "- 1/0", "- 1/0")
	tells(t, grammar(3, "0: 1; 2: 0 1"), "- - -", "- - -")
	tells(t, grammar(3, "2:; 0: 1 2; 0: 2 1; 0: a 1; 1: 1 2; 1: 2 1 2"), "- - 1/0", "- - 1/0")
	tells(t, grammar(4, "1: a; 2: 1 3; 3: 2; 0: 3 a; 0: a 2"), "- - - -", "- 1/0 - -")
	tells(t, grammar(2, "0: 1 1 1 1 1 1 1 0; 1:"), "- 1/1", "- 1/1")
	tells(t, grammar(3, "0: 1 1 1 1 1 1 1 2; 0: 2 1; 1:"), "- 1/2 -", "- 1/2 -")
}

// P9.1: a grammar of no productions may be; of its nonterminals none has a rank.
func TestNoProductions(t *testing.T) {
	for nons := 1; nons <= api.MostNons; nons++ {
		none := strings.Repeat("- ", nons)
		tells(t, api.Grammar{Nons: nons}, none, none)
		tells(t, api.Grammar{Terms: api.MostTerms, Nons: nons, Start: nons - 1, Prods: []api.Prod{}}, none, none)
	}
}

// P9.1: productions may stand in another order than their nonterminals; Start and Terms change nothing.
func TestOrder(t *testing.T) {
	tells(t, grammar(3, "2: 0; 1:; 0: 1; 2: a; 1: 2; 0: b"), "2/2 1/1 3/0", "1/5 1/1 1/3")
	tells(t, grammar(3, "0: b; 1: 2; 2: a; 0: 1; 1:; 2: 0"), "2/3 1/4 3/5", "1/0 1/4 1/2")
	tells(t, grammar(4, "3: 2 1; 0: 3; 2: 1; 0: 2 3; 1: 0; 1:; 3: 3"), "4/1 1/5 2/2 3/0", "4/1 1/5 2/2 3/0")
	g := grammar(4, "3: 2 1; 0: 3; 2: 1; 0: 2 3; 1: 0; 1:; 3: 3")
	for start := range 4 {
		for terms := range api.MostTerms + 1 {
			g.Start, g.Terms = start, terms
			tells(t, g, "4/1 1/5 2/2 3/0", "4/1 1/5 2/2 3/0")
		}
	}
}

// P9.1: a grammar at all limits.
func TestMost(t *testing.T) {
	g := api.Grammar{Terms: api.MostTerms, Nons: api.MostNons, Start: api.MostNons - 1}
	want := make([]api.Fact, api.MostNons)
	for i := range api.MostProds {
		p := api.Prod{Left: i % api.MostNons}
		for range api.MostRight {
			p.Right = append(p.Right, api.Sym{Non: p.Left > 0, N: max(p.Left-1, 0)})
		}
		g.Prods = append(g.Prods, p)
		want[p.Left] = api.Fact{Rank: p.Left + 1, Prod: p.Left}
	}
	told(t, "Productive", rank.Productive, g, want)
	told(t, "Nullable", rank.Nullable, g, make([]api.Fact, api.MostNons))
	g.Prods[48].Right = nil // the last one of nonterminal 0
	want[0].Prod = 48
	told(t, "Nullable", rank.Nullable, g, want)
}

// mayNot are grammars that may not be, by what is wrong with each; all but those of wrong numbers have ranks otherwise.
func mayNot() map[string]api.Grammar {
	with := func(change func(g *api.Grammar)) api.Grammar {
		g := grammar(2, "0:; 1: 0 0; 1: a 1; 0: b")
		g.Terms = 3
		change(&g)
		return g
	}
	return map[string]api.Grammar{
		"the empty grammar":       {},
		"Terms below 0":           with(func(g *api.Grammar) { g.Terms = -1 }),
		"Terms below 0, alone":    {Terms: -1, Nons: 2, Prods: []api.Prod{{}}},
		"Terms one more":          with(func(g *api.Grammar) { g.Terms = api.MostTerms + 1 }),
		"Terms far more":          with(func(g *api.Grammar) { g.Terms = math.MaxInt }),
		"Nons below 0":            with(func(g *api.Grammar) { g.Nons = -1 }),
		"Nons far below 0":        with(func(g *api.Grammar) { g.Nons = math.MinInt }),
		"Nons 0":                  with(func(g *api.Grammar) { g.Nons = 0 }),
		"Nons 0, no productions":  {Terms: 1},
		"Nons one more":           with(func(g *api.Grammar) { g.Nons = api.MostNons + 1 }),
		"Nons far more":           with(func(g *api.Grammar) { g.Nons = math.MaxInt }),
		"Start below 0":           with(func(g *api.Grammar) { g.Start = -1 }),
		"Start one more":          with(func(g *api.Grammar) { g.Start = 2 }),
		"productions one more":    {Nons: 2, Prods: make([]api.Prod, api.MostProds+1)},
		"Left below 0":            with(func(g *api.Grammar) { g.Prods[2].Left = -1 }),
		"Left one more":           with(func(g *api.Grammar) { g.Prods[2].Left = 2 }),
		"the last Left one more":  with(func(g *api.Grammar) { g.Prods[3].Left = 2 }),
		"symbols one more":        with(func(g *api.Grammar) { g.Prods[2].Right = make([]api.Sym, api.MostRight+1) }),
		"a terminal below 0":      with(func(g *api.Grammar) { g.Prods[2].Right[0].N = -1 }),
		"a terminal one more":     with(func(g *api.Grammar) { g.Prods[2].Right[0].N = 3 }),
		"a terminal of none":      with(func(g *api.Grammar) { g.Terms = 0 }),
		"a nonterminal below 0":   with(func(g *api.Grammar) { g.Prods[2].Right[1].N = -1 }),
		"a nonterminal one more":  with(func(g *api.Grammar) { g.Prods[2].Right[1].N = 2 }),
		"a nonterminal far below": with(func(g *api.Grammar) { g.Prods[1].Right[1].N = math.MinInt }),
		"a nonterminal far more":  with(func(g *api.Grammar) { g.Prods[1].Right[0].N = math.MaxInt }),
	}
}

// P9.1: of a grammar that may not be nothing is told, that is nil.
func TestMayNotBe(t *testing.T) {
	for what, g := range mayNot() {
		if gram.Right(g) {
			t.Errorf("%s may be", what)
		}
		before := gram.Clone(g)
		if l := rank.Nullable(g); l != nil {
			t.Errorf("%s: Nullable: %v", what, l)
		}
		if l := rank.Productive(g); l != nil {
			t.Errorf("%s: Productive: %v", what, l)
		}
		if !gram.Same(g, before) {
			t.Errorf("%s is changed", what)
		}
	}
}

// R3, R4, R5: a change of the grammar changes nothing of what was told, and answers share nothing with each other.
func TestNothingIsKept(t *testing.T) {
	const text = "0: 1 1; 1: 2; 2:; 3: a 2; 2: b; 3: 3"
	g := grammar(4, text)
	nullable, productive := rank.Nullable(g), rank.Productive(g)
	before := rank.Nullable(g)
	clear(before[:cap(before)])
	_ = append(productive, api.Fact{Rank: 9}, api.Fact{Rank: 9})
	other := grammar(4, "3: 3; 3: 2 2; 2: 0; 0: 1; 1: a; 1:")
	tells(t, other, "2/3 1/5 3/2 4/1", "2/3 1/4 3/2 4/1")
	for i := range g.Prods {
		clear(g.Prods[i].Right)
		g.Prods[i].Left = 3
	}
	g.Nons = 9
	if !slices.Equal(nullable, facts("3/0 2/1 1/2 -")) || !slices.Equal(productive, facts("3/0 2/1 1/2 2/3")) {
		t.Errorf("%v, %v", nullable, productive)
	}
	tells(t, grammar(4, text), "3/0 2/1 1/2 -", "3/0 2/1 1/2 2/3")
}
