package reach_test

import (
	"math"
	"slices"
	"strconv"
	"strings"
	"testing"

	"probate/api"
	"probate/gram"
	"probate/reach"
)

// grammar is one of so many nonterminals, and of productions parted by ";": numbers are nonterminals, and letters, from a on, terminals.
func grammar(nons int, text string) api.Grammar {
	g := api.Grammar{Terms: api.MostTerms, Nons: nons}
	for _, line := range strings.Split(text, ";") {
		left, right, ok := strings.Cut(line, ":")
		if !ok {
			continue
		}
		p := api.Prod{Left: number(left)}
		for _, s := range strings.Fields(right) {
			if s[0] >= 'a' {
				p.Right = append(p.Right, api.Sym{N: int(s[0] - 'a')})
			} else {
				p.Right = append(p.Right, api.Sym{Non: true, N: number(s)})
			}
		}
		g.Prods = append(g.Prods, p)
	}
	return g
}

func number(text string) int {
	n, err := strconv.Atoi(strings.TrimSpace(text))
	if err != nil {
		panic(err)
	}
	return n
}

// facts are those of a text: a Rank, /, and a Prod; - is 0/0.
func facts(text string) []api.Fact {
	var l []api.Fact
	for _, f := range strings.Fields(text) {
		if f == "-" {
			f = "0/0"
		}
		r, p, _ := strings.Cut(f, "/")
		l = append(l, api.Fact{Rank: number(r), Prod: number(p)})
	}
	return l
}

// told holds what a function tells of a grammar, that it tells it again when what it told was changed, and that the grammar stays as it was (R3, R4).
func told(t *testing.T, name string, of func(api.Grammar) []api.Fact, g api.Grammar, want []api.Fact) {
	t.Helper()
	before := gram.Clone(g)
	for range 3 {
		l := of(g)
		if l == nil || !slices.Equal(l, want) {
			t.Errorf("%s of %v: %v, not %v", name, g, l, want)
			return
		}
		for i := range l {
			l[i] = api.Fact{Rank: 77, Prod: -77}
		}
		_ = append(l, api.Fact{Rank: 88})
		if !gram.Same(g, before) {
			t.Errorf("%s changed %v to %v", name, before, g)
			return
		}
	}
}

// tells holds what is told of a grammar of a Start.
func tells(t *testing.T, start int, g api.Grammar, want string) {
	t.Helper()
	g.Start = start
	told(t, "Reach", reach.Reach, g, facts(want))
}

// P10.1: the chapter's example, fact by fact.
func TestExample(t *testing.T) {
	g := api.Grammar{Terms: 1, Nons: 3, Prods: []api.Prod{
		{Left: 0, Right: []api.Sym{{Non: true, N: 1}}},
		{Left: 1, Right: []api.Sym{{N: 0}, {Non: true, N: 0}}},
		{Left: 2, Right: []api.Sym{{Non: true, N: 0}}},
	}}
	l := reach.Reach(g)
	if len(l) != 3 || l[0] != (api.Fact{Rank: 1, Prod: 0}) || l[1] != (api.Fact{Rank: 2, Prod: 0}) || l[2] != (api.Fact{}) {
		t.Errorf("Reach: %v", l)
	}
	if !reach.Shows(g, l) {
		t.Errorf("%v doesn't show", l)
	}
	if g.Terms = api.MostTerms; !gram.Same(g, grammar(3, "0: 1; 1: a 0; 2: 0")) {
		t.Error("a grammar isn't what its text says")
	}
}

// P10.1: Start has Rank 1 and Prod 0, whichever nonterminal it is, whatever leads back to it, and whosever production 0 is.
func TestStart(t *testing.T) {
	tells(t, 0, grammar(1, "0: 0"), "1/0")
	tells(t, 0, grammar(1, "0: a; 0: 0; 0: a 0"), "1/0")
	tells(t, 0, grammar(2, "1: 0; 0: 1"), "1/0 2/1")
	tells(t, 1, grammar(2, "0: 1; 1: 0"), "2/1 1/0")
	tells(t, 1, grammar(2, "0: 0; 0: 1; 1: 1"), "- 1/0")
	tells(t, 1, grammar(2, "0: a; 1: 1 0; 1: 1"), "2/1 1/0")
	for start, want := range []string{"1/0 2/0 3/1", "3/2 1/0 2/1", "2/2 3/0 1/0"} {
		tells(t, start, grammar(3, "0: 1; 1: 2; 2: 0"), want)
	}
	for start, want := range []string{"1/0 - -", "2/2 1/0 -", "3/2 2/0 1/0"} {
		tells(t, start, grammar(3, "2: 2 1; 1: 1; 1: 0 1; 0: a"), want)
	}
	for start := range api.MostNons {
		want := make([]api.Fact, api.MostNons)
		want[start].Rank = 1
		g := grammar(api.MostNons, strings.Repeat(strconv.Itoa(start)+": a "+strconv.Itoa(start)+";", api.MostProds))
		g.Start = start
		told(t, "Reach", reach.Reach, g, want)
	}
}

// P10.1: the least rank goes ahead of the least number, in rising and in falling order of those who lead there.
func TestLeastRank(t *testing.T) {
	tells(t, 0, grammar(3, "0: 1; 1: 2; 0: 2"), "1/0 2/0 2/2")
	tells(t, 0, grammar(3, "0: 2; 2: 1; 0: 1"), "1/0 2/2 2/0")
	tells(t, 0, grammar(3, "1: 2; 0: 2; 0: 1"), "1/0 2/2 2/1")
	tells(t, 0, grammar(3, "1: 2; 0: 1; 0: 2"), "1/0 2/1 2/2")
	tells(t, 2, grammar(3, "1: 0; 2: 1; 2: 0"), "2/2 2/1 1/0")
	tells(t, 2, grammar(3, "1: 0; 2: 0; 2: 1"), "2/1 2/2 1/0")
	tells(t, 0, grammar(4, "2: 3; 1: 3; 1: 2; 0: 1"), "1/0 2/3 3/2 3/1")
	tells(t, 0, grammar(4, "1: 3; 2: 3; 2: 1; 0: 2"), "1/0 3/2 2/3 3/1")
	tells(t, 0, grammar(4, "3: 3; 2: 3; 1: 3; 1: 2; 0: 1"), "1/0 2/4 3/3 3/2")
	tells(t, 0, grammar(5, "1: 2 4; 2: 3 4; 3: 4; 0: 1"), "1/0 2/3 3/0 4/1 3/0")
	tells(t, 0, grammar(5, "3: 4; 2: 3 4; 1: 2; 0: 1"), "1/0 2/3 3/2 4/1 4/1")
	tells(t, 0, grammar(5, "3: 4; 2: 3; 1: 2; 0: 1; 0: 4"), "1/0 2/3 3/2 4/1 2/4")
	tells(t, 4, grammar(5, "1: 0; 2: 1; 3: 2; 4: 3; 4: 0"), "2/4 4/1 3/2 2/3 1/0")
}

// P10.1: among productions of nonterminals of the least rank it is the least number, whichever of those nonterminals was reached first, and whichever has the lesser number.
func TestLeastNumber(t *testing.T) {
	tells(t, 0, grammar(2, "0: 1; 0: 1"), "1/0 2/0")
	tells(t, 0, grammar(2, "0: 0; 0: a; 0:; 0: a 0 1; 0: 1"), "1/0 2/3")
	tells(t, 0, grammar(2, "1: 1; 0: 0; 0: 1; 0: 1 1"), "1/0 2/2")
	for text, want := range map[string]string{
		"0: 1; 0: 2; 1: 3; 2: 3":               "1/0 2/0 2/1 3/2",
		"0: 1; 0: 2; 2: 3; 1: 3":               "1/0 2/0 2/1 3/2",
		"0: 2; 0: 1; 1: 3; 2: 3":               "1/0 2/1 2/0 3/2",
		"0: 2; 0: 1; 2: 3; 1: 3":               "1/0 2/1 2/0 3/2",
		"2: 3; 0: 1; 0: 2; 1: 3":               "1/0 2/1 2/2 3/0",
		"1: 3; 0: 1; 0: 2; 2: 3":               "1/0 2/1 2/2 3/0",
		"2: 3; 1: 3; 0: 1 2":                   "1/0 2/2 2/2 3/0",
		"1: 3; 2: 3; 0: 2 1":                   "1/0 2/2 2/2 3/0",
		"0: 1 2; 2: a 3 2; 1: 3":               "1/0 2/0 2/0 3/1",
		"0: 2 1; 1: 3; 2: 3; 3: 3; 1: 2; 2: 1": "1/0 2/0 2/0 3/1",
	} {
		tells(t, 0, grammar(4, text), want)
	}
	for text, want := range map[string]string{
		"0: 1 2 3; 3: 4; 2: 4; 1: 4":           "1/0 2/0 2/0 2/0 3/1",
		"0: 3 2 1; 1: 4; 2: 4; 3: 4":           "1/0 2/0 2/0 2/0 3/1",
		"0: 1; 1: 2 3; 3: 4; 2: 4":             "1/0 2/0 3/1 3/1 4/2",
		"3: 4; 2: 4; 1: 2 3; 0: 1":             "1/0 2/3 3/2 3/2 4/0",
		"0: 3 2; 3: 1; 2: 1; 1: 4":             "1/0 3/1 2/0 2/0 4/3",
		"4: 4; 1: 4; 3: 4; 2: 1; 2: 4; 0: 3 2": "1/0 3/3 2/5 2/5 3/2",
	} {
		tells(t, 0, grammar(5, text), want)
	}
}

// P10.1: a nonterminal may stand twice in a production, at any of its places, and behind terminals.
func TestPlaces(t *testing.T) {
	tells(t, 0, grammar(2, "0: 1 1"), "1/0 2/0")
	tells(t, 0, grammar(2, "0: a 1"), "1/0 2/0")
	tells(t, 0, grammar(2, "0: a b p 1 a"), "1/0 2/0")
	tells(t, 0, grammar(2, "0: 1 a 1 b; 1: a 0 1 1 0"), "1/0 2/0")
	tells(t, 0, grammar(3, "0: a a 1 b 1; 1: 1 b 2 0 2"), "1/0 2/0 3/1")
	tells(t, 0, grammar(3, "0: b; 0: c 2; 2: c; 2: 2 a 1"), "1/0 3/3 2/1")
	tells(t, 0, grammar(8, "0: 7 6 5 4 3 2 1 0"), "1/0 2/0 2/0 2/0 2/0 2/0 2/0 2/0")
	tells(t, 0, grammar(9, "0: 1 2 3 4 5 6 7 8"), "1/0 2/0 2/0 2/0 2/0 2/0 2/0 2/0 2/0")
	for place := range api.MostRight {
		for size := place + 1; size <= api.MostRight; size++ {
			for _, fill := range []string{"a", "b", "0"} {
				right := strings.Repeat(fill+" ", place) + "1" + strings.Repeat(" "+fill, size-place-1)
				tells(t, 0, grammar(3, "0: "+right+"; 1: 2"), "1/0 2/0 3/1")
			}
		}
	}
}

// P10.1: a terminal of a nonterminal's number leads nowhere.
func TestTerminals(t *testing.T) {
	tells(t, 0, grammar(2, "0: b"), "1/0 -")
	tells(t, 0, grammar(2, "0: b a b; 1: 0"), "1/0 -")
	tells(t, 0, grammar(3, "0: c b; 0: c 1; 1: b c"), "1/0 2/1 -")
	tells(t, 1, grammar(3, "0: 1; 1: a c; 2: 0"), "- 1/0 -")
}

// chain is one in which each nonterminal calls the next, and the last one's production ends so; it is told by what becomes of each number.
func chain(end string, of func(non int) int) string {
	var b strings.Builder
	for i := range api.MostNons - 1 {
		b.WriteString(strconv.Itoa(of(i)) + ": " + strconv.Itoa(of(i+1)) + ";")
	}
	b.WriteString(strconv.Itoa(of(api.MostNons-1)) + ":" + end)
	return b.String()
}

// P10.1: ranks up to MostNons, in rising and in falling order, of nonterminals and of productions, from each place of the chain.
func TestChains(t *testing.T) {
	const last = api.MostNons - 1
	for _, up := range []bool{true, false} {
		of := func(non int) int { return non }
		if !up {
			of = func(non int) int { return last - non }
		}
		for _, back := range []bool{false, true} {
			for start := range api.MostNons {
				chains(t, start, of, back)
			}
		}
	}
}

// chains holds a chain that ends, and one that leads back to where it begins, with a Start at a place of it.
func chains(t *testing.T, start int, of func(non int) int, back bool) {
	t.Helper()
	const last = api.MostNons - 1
	for end, ring := range map[string]bool{"": false, "a": false, strconv.Itoa(of(0)): true} {
		g := grammar(api.MostNons, chain(end, of))
		g.Start = of(start)
		if back {
			slices.Reverse(g.Prods)
		}
		want := make([]api.Fact, api.MostNons)
		want[of(start)].Rank = 1
		for i := 1; i < api.MostNons && (ring || start+i <= last); i++ {
			prod := (start + i - 1) % api.MostNons
			if back {
				prod = last - prod
			}
			want[of((start+i)%api.MostNons)] = api.Fact{Rank: i + 1, Prod: prod}
		}
		told(t, "Reach", reach.Reach, g, want)
	}
}

// P10.1: from Start another way may lead into a chain, at each place of it.
func TestChainsCutShort(t *testing.T) {
	for i := 1; i < api.MostNons; i++ {
		g := grammar(api.MostNons, chain("", func(non int) int { return non }))
		g.Prods = append(g.Prods, api.Prod{Right: []api.Sym{{Non: true, N: i}}})
		want := make([]api.Fact, api.MostNons)
		want[0].Rank = 1
		for non := 1; non < api.MostNons; non++ {
			want[non] = api.Fact{Rank: non + 1, Prod: non - 1}
			if non >= i {
				want[non].Rank = non - i + 2
			}
		}
		if i > 1 {
			want[i].Prod = api.MostNons
		}
		told(t, "Reach", reach.Reach, g, want)
	}
}

// P10.1: who isn't reached is of Rank 0 and Prod 0: alone, if they call each other, and if they call who is reached.
func TestNotReached(t *testing.T) {
	tells(t, 0, grammar(2, ""), "1/0 -")
	tells(t, 0, grammar(2, "0: a; 1: a"), "1/0 -")
	tells(t, 0, grammar(2, "0: 0; 1: 1"), "1/0 -")
	tells(t, 0, grammar(2, "1: 0"), "1/0 -")
	tells(t, 0, grammar(3, "0: a; 1: 2; 2: 1"), "1/0 - -")
	tells(t, 0, grammar(3, "1: 2 0; 2: 1 0; 0: b"), "1/0 - -")
	tells(t, 0, grammar(4, "2: 3; 3: 2 1 0; 0: 1; 1: 0"), "1/0 2/2 - -")
	tells(t, 0, grammar(4, "3: 1; 3: 2; 2: 1; 0: 1"), "1/0 2/3 - -")
	tells(t, 3, grammar(4, "3: 1; 2: 1; 0: 3; 2: 0"), "- 2/0 - 1/0")
	tells(t, 2, grammar(5, "1: 0 2 3 4; 2: a; 3: 1 4 0"), "- - 1/0 - -")
	tells(t, 1, grammar(5, "4: 3 1; 0: 3 2; 1: 0; 3: 4"), "2/2 1/0 3/1 3/1 4/3")
}

// P10.1: a grammar of no productions may be; of its nonterminals Start alone is reached.
func TestNoProductions(t *testing.T) {
	for nons := 1; nons <= api.MostNons; nons++ {
		for start := range nons {
			want := make([]api.Fact, nons)
			want[start].Rank = 1
			told(t, "Reach", reach.Reach, api.Grammar{Nons: nons, Start: start}, want)
			told(t, "Reach", reach.Reach, api.Grammar{Terms: api.MostTerms, Nons: nons, Start: start, Prods: []api.Prod{}}, want)
		}
	}
}

// P10.1: productions may stand in another order than their nonterminals; Terms change nothing, nor does an empty list of symbols.
func TestOrder(t *testing.T) {
	tells(t, 0, grammar(4, "3: 2; 0: 3; 2: 1; 0: 2 3; 1: 0; 1:; 3: 3"), "1/0 3/2 2/3 2/1")
	tells(t, 1, grammar(4, "3: 2; 0: 3; 2: 1; 0: 2 3; 1: 0; 1:; 3: 3"), "2/4 1/0 3/3 3/1")
	tells(t, 2, grammar(4, "3: 2; 0: 3; 2: 1; 0: 2 3; 1: 0; 1:; 3: 3"), "3/4 2/2 1/0 4/1")
	tells(t, 3, grammar(4, "3: 2; 0: 3; 2: 1; 0: 2 3; 1: 0; 1:; 3: 3"), "4/4 3/2 2/0 1/0")
	for terms := range api.MostTerms + 1 {
		g := grammar(3, "2: 1; 0: 2; 1:; 0: 0")
		g.Terms, g.Prods[2].Right = terms, []api.Sym{}
		tells(t, 0, g, "1/0 3/0 2/1")
	}
}

// P10.1: a grammar at all limits.
func TestMost(t *testing.T) {
	const last = api.MostNons - 1
	g := api.Grammar{Terms: api.MostTerms, Nons: api.MostNons, Start: last}
	want := make([]api.Fact, api.MostNons)
	for i := range api.MostProds {
		p := api.Prod{Left: i % api.MostNons}
		for range api.MostRight {
			p.Right = append(p.Right, api.Sym{Non: p.Left > 0, N: max(p.Left-1, 0)})
		}
		g.Prods = append(g.Prods, p)
		if i < last {
			want[i] = api.Fact{Rank: api.MostNons - i, Prod: i + 1}
		}
	}
	want[last].Rank = 1
	told(t, "Reach", reach.Reach, g, want)
	g.Prods[last].Right = slices.Clone(g.Prods[0].Right) // another production of the last one leads on
	want[last-1].Prod = last + api.MostNons
	told(t, "Reach", reach.Reach, g, want)
}

// mayNot are grammars that may not be, by what is wrong with each; but for that both nonterminals of most would be reached.
func mayNot() map[string]api.Grammar {
	with := func(change func(g *api.Grammar)) api.Grammar {
		g := grammar(2, "0: 1; 1: 0 0; 1: a 1; 0: b")
		g.Terms = 3
		change(&g)
		return g
	}
	return map[string]api.Grammar{
		"the empty grammar":       {},
		"Terms below 0":           with(func(g *api.Grammar) { g.Terms = -1 }),
		"Terms below 0, alone":    {Terms: -1, Nons: 2, Prods: []api.Prod{{}}},
		"Terms one more":          with(func(g *api.Grammar) { g.Terms = api.MostTerms + 1 }),
		"Terms far more":          with(func(g *api.Grammar) { g.Terms = math.MaxInt }),
		"Nons below 0":            with(func(g *api.Grammar) { g.Nons = -1 }),
		"Nons far below 0":        with(func(g *api.Grammar) { g.Nons = math.MinInt }),
		"Nons 0":                  with(func(g *api.Grammar) { g.Nons = 0 }),
		"Nons 0, no productions":  {Terms: 1},
		"Nons one more":           with(func(g *api.Grammar) { g.Nons = api.MostNons + 1 }),
		"Nons far more":           with(func(g *api.Grammar) { g.Nons = math.MaxInt }),
		"Start below 0":           with(func(g *api.Grammar) { g.Start = -1 }),
		"Start one more":          with(func(g *api.Grammar) { g.Start = 2 }),
		"productions one more":    {Nons: 2, Prods: make([]api.Prod, api.MostProds+1)},
		"Left below 0":            with(func(g *api.Grammar) { g.Prods[2].Left = -1 }),
		"Left one more":           with(func(g *api.Grammar) { g.Prods[2].Left = 2 }),
		"the last Left one more":  with(func(g *api.Grammar) { g.Prods[3].Left = 2 }),
		"symbols one more":        with(func(g *api.Grammar) { g.Prods[2].Right = make([]api.Sym, api.MostRight+1) }),
		"a terminal below 0":      with(func(g *api.Grammar) { g.Prods[2].Right[0].N = -1 }),
		"a terminal one more":     with(func(g *api.Grammar) { g.Prods[2].Right[0].N = 3 }),
		"a terminal of none":      with(func(g *api.Grammar) { g.Terms = 0 }),
		"a nonterminal below 0":   with(func(g *api.Grammar) { g.Prods[2].Right[1].N = -1 }),
		"a nonterminal one more":  with(func(g *api.Grammar) { g.Prods[2].Right[1].N = 2 }),
		"a nonterminal far below": with(func(g *api.Grammar) { g.Prods[1].Right[1].N = math.MinInt }),
		"a nonterminal far more":  with(func(g *api.Grammar) { g.Prods[1].Right[0].N = math.MaxInt }),
	}
}

// P10.1: of a grammar that may not be nothing is told, that is nil.
func TestMayNotBe(t *testing.T) {
	for what, g := range mayNot() {
		if gram.Right(g) {
			t.Errorf("%s may be", what)
		}
		before := gram.Clone(g)
		if l := reach.Reach(g); l != nil {
			t.Errorf("%s: Reach: %v", what, l)
		}
		if !gram.Same(g, before) {
			t.Errorf("%s is changed", what)
		}
	}
}

// R3, R4, R5: a change of the grammar changes nothing of what was told, and answers share nothing with each other.
func TestNothingIsKept(t *testing.T) {
	const text = "0: 1 1; 1: 2; 2:; 3: a 2; 2: b; 1: 0"
	g := grammar(4, text)
	l, other := reach.Reach(g), reach.Reach(g)
	clear(other[:cap(other)])
	_ = append(other[:0], api.Fact{Rank: 9}, api.Fact{Rank: 9})
	tells(t, 3, grammar(4, "3: 3; 3: 2 2; 2: 0; 0: 1; 1: a; 1:"), "3/2 4/3 2/1 1/0")
	for i := range g.Prods {
		clear(g.Prods[i].Right)
		g.Prods[i].Left = 3
	}
	g.Nons, g.Start = 9, 2
	if !slices.Equal(l, facts("1/0 2/0 3/1 -")) {
		t.Error(l)
	}
	tells(t, 0, grammar(4, text), "1/0 2/0 3/1 -")
}
