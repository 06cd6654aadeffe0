package left_test

import (
	"math"
	"slices"
	"strconv"
	"strings"
	"testing"

	"probate/api"
	"probate/gram"
	"probate/left"
)

const last = api.MostNons - 1

// non is a nonterminal.
func non(n int) api.Sym { return api.Sym{Non: true, N: n} }

// symbols are those of a text: numbers are nonterminals, and letters, from a on, terminals.
func symbols(text string) []api.Sym {
	var l []api.Sym
	for _, s := range strings.Fields(text) {
		if s[0] >= 'a' {
			l = append(l, api.Sym{N: int(s[0] - 'a')})
		} else {
			l = append(l, non(number(s)))
		}
	}
	return l
}

// grammar is one of so many nonterminals, whose Start is 0, and of productions parted by ";".
func grammar(nons int, text string) api.Grammar {
	g := api.Grammar{Terms: api.MostTerms, Nons: nons}
	for _, line := range strings.Split(text, ";") {
		if left, right, ok := strings.Cut(line, ":"); ok {
			g.Prods = append(g.Prods, api.Prod{Left: number(left), Right: symbols(right)})
		}
	}
	return g
}

func number(text string) int {
	n, err := strconv.Atoi(strings.TrimSpace(text))
	if err != nil {
		panic(err)
	}
	return n
}

// set is that of a text's nonterminals, parted by spaces.
func set(text string) uint32 {
	n := uint32(0)
	for _, f := range strings.Fields(text) {
		n += 1 << number(f)
	}
	return n
}

// steps are those of a text: a Prod, a point, and a Dot.
func steps(text string) []left.Step {
	var l []left.Step
	for _, f := range strings.Fields(text) {
		prod, dot, _ := strings.Cut(f, ".")
		l = append(l, left.Step{Prod: number(prod), Dot: number(dot)})
	}
	return l
}

// recursive holds the set of a grammar, twice the same, and that the grammar stays as it was (R3, R4).
func recursive(t *testing.T, g api.Grammar, want uint32) {
	t.Helper()
	before := gram.Clone(g)
	for range 2 {
		if got := left.Recursive(g); got != want {
			t.Errorf("Recursive(%v): %b, not %b", g, got, want)
			return
		}
		if !gram.Same(g, before) {
			t.Errorf("Recursive changed %v to %v", before, g)
			return
		}
	}
}

// isRecursive holds the set of a grammar, whatever the order of its productions, and whichever nonterminal its Start is.
func isRecursive(t *testing.T, g api.Grammar, want string) {
	t.Helper()
	for g.Start = range g.Nons {
		recursive(t, g, set(want))
	}
	slices.Reverse(g.Prods)
	recursive(t, g, set(want))
}

// P13.1: the chapter's example.
func TestExample(t *testing.T) {
	g := api.Grammar{Terms: 1, Nons: 2, Prods: []api.Prod{
		{Left: 0, Right: []api.Sym{{Non: true, N: 1}, {Non: true, N: 0}, {N: 0}}},
		{Left: 1},
		{Left: 0, Right: []api.Sym{{N: 0}}},
	}}
	if got := left.Recursive(g); got != 1 {
		t.Errorf("Recursive: %b", got)
	}
	if l := left.Way(g, 0); len(l) != 1 || l[0] != (left.Step{Prod: 0, Dot: 1}) {
		t.Errorf("Way: %v", l)
	}
	if l := left.Way(g, 1); l != nil {
		t.Errorf("Way of 1: %v", l)
	}
	if !left.Leads(g, 0, 0, []left.Step{{Prod: 0, Dot: 1}}) || !left.Leads(g, 0, 1, []left.Step{{Prod: 0, Dot: 0}}) {
		t.Error("Leads: false")
	}
	if left.Leads(g, 0, 0, []left.Step{{Prod: 0, Dot: 0}}) || left.Leads(g, 1, 0, []left.Step{{Prod: 0, Dot: 1}}) {
		t.Error("Leads: true")
	}
	if g.Terms = api.MostTerms; !gram.Same(g, grammar(2, "0: 1 0 a; 1:; 0: a")) {
		t.Error("a grammar isn't what its text says")
	}
	if set("0 1 23") != 1+2+1<<23 || !slices.Equal(steps("3.1 0.7"), []left.Step{{Prod: 3, Dot: 1}, {Prod: 0, Dot: 7}}) {
		t.Error("a set, or steps, aren't what their text says")
	}
}

// P13.1: one that leads to itself at a production's first place, be that production the first, the last, or one between.
func TestFirstPlace(t *testing.T) {
	isRecursive(t, grammar(1, "0: 0"), "0")
	isRecursive(t, grammar(1, "0: 0 a"), "0")
	isRecursive(t, grammar(1, "0: 0 0"), "0")
	isRecursive(t, grammar(1, "0: a; 0: 0 a"), "0")
	isRecursive(t, grammar(1, "0:; 0: 0 a; 0: b"), "0")
	isRecursive(t, grammar(2, "0: 0 1; 1: a"), "0")
	isRecursive(t, grammar(2, "0: 1; 1: 1 a; 1: b"), "1")
	isRecursive(t, grammar(2, "0: 1; 1: a; 1: a a; 1: 1 1"), "1")
	isRecursive(t, grammar(3, "0: 0 1; 1: a 2; 2: 2 0; 2: b"), "0 2")
	for many := 1; many <= api.MostRight; many++ {
		isRecursive(t, grammar(2, "0: 1; 1: 1"+strings.Repeat(" a", many-1)), "1")
		isRecursive(t, grammar(2, "0: 1; 1: 1"+strings.Repeat(" 0", many-1)), "1")
	}
	for many := range api.MostProds {
		isRecursive(t, grammar(1, strings.Repeat("0: a;", many)+"0: 0;"+strings.Repeat("0: b;", api.MostProds-many-1)), "0")
	}
}

// P13.1: one that leads to itself behind one nullable nonterminal, and behind several.
func TestBehindNullable(t *testing.T) {
	isRecursive(t, grammar(2, "0: 1 0; 1:"), "0")
	isRecursive(t, grammar(2, "0: 1 0; 1: a; 1:"), "0")
	isRecursive(t, grammar(2, "0: 1 0 b; 0: b; 1:; 1: a"), "0")
	isRecursive(t, grammar(2, "0: 1 1 0; 1:"), "0")
	isRecursive(t, grammar(3, "0: 1 2 0; 1:; 2:"), "0")
	isRecursive(t, grammar(3, "0: 2 1 0 a; 1: b; 2: c; 1:; 2:"), "0")
	isRecursive(t, grammar(3, "0: a 1; 1: 2 1 b; 2:; 2: c"), "1")
	isRecursive(t, grammar(8, "0: 1 2 3 4 5 6 7 0; 1:; 2:; 3:; 4:; 5:; 6:; 7:"), "0")
	isRecursive(t, grammar(8, "0: 7 6 5 4 3 2 1 0; 1: a; 2: b; 3: c; 4: d; 5: e; 6: f; 7: g; 1:; 2:; 3:; 4:; 5:; 6:; 7:"), "0")
	for place := range api.MostRight {
		for behind := range api.MostRight - place {
			text := "0: " + strings.Repeat("1 ", place) + "0" + strings.Repeat(" a", behind) + "; 0: a;"
			isRecursive(t, grammar(2, text+"1:"), "0")
			isRecursive(t, grammar(2, text+"1: b; 1:"), "0")
		}
	}
}

// P13.1: none leads to itself behind a terminal, be it the first symbol or one behind nullable ones, and of whatever number.
func TestBehindTerminal(t *testing.T) {
	isRecursive(t, grammar(1, "0: a 0"), "")
	isRecursive(t, grammar(1, "0: a 0 0; 0:"), "")
	isRecursive(t, grammar(2, "0: 1 a 0; 1:"), "")
	isRecursive(t, grammar(2, "0: a 1 0; 1:"), "")
	isRecursive(t, grammar(2, "0: 1 1 b 0; 1:; 1: a"), "")
	isRecursive(t, grammar(2, "0: b 0; 1:"), "")
	isRecursive(t, grammar(2, "0: a; 0: b"), "")
	isRecursive(t, grammar(2, "0: 1 a; 1: a 0"), "")
	isRecursive(t, grammar(2, "0: a 1; 1: 0"), "")
	isRecursive(t, grammar(3, "0: 1 2; 1: a; 1:; 2: b 0; 2:"), "")
	for n := range api.MostTerms {
		g := grammar(16, "")
		for i := 1; i < g.Nons; i++ { // nonterminals of the terminals' numbers are nullable
			g.Prods = append(g.Prods, api.Prod{Left: i})
		}
		g.Prods = append(g.Prods, api.Prod{Left: 0, Right: []api.Sym{{N: n}, non(0)}}, api.Prod{Left: 0, Right: []api.Sym{{N: n}}})
		isRecursive(t, g, "")
	}
	for place := range api.MostRight - 1 {
		ahead, behind := strings.Repeat("1 ", place), strings.Repeat(" 0", api.MostRight-1-place)
		isRecursive(t, grammar(2, "1:; 0: "+ahead+"a"+behind), "")
	}
}

// P13.1: none leads to itself behind a nonterminal that is not nullable, be it the first symbol or one behind nullable ones.
func TestBehindNotNullable(t *testing.T) {
	isRecursive(t, grammar(2, "0: 1 0; 1: a"), "")
	isRecursive(t, grammar(2, "0: 1 0; 1: a; 0:"), "")
	isRecursive(t, grammar(2, "0: 1 0; 1: a 1"), "")
	isRecursive(t, grammar(2, "0: 1 0"), "")
	isRecursive(t, grammar(2, "0: 1 0; 1: 1"), "1")
	isRecursive(t, grammar(3, "0: 1 2 0; 1:; 2: a"), "")
	isRecursive(t, grammar(3, "0: 2 1 0; 1:; 2: a"), "")
	isRecursive(t, grammar(3, "0: 1 2 1 0; 1:; 2: 1 a"), "")
	isRecursive(t, grammar(3, "0: 1 a; 1: 2 0; 2: b; 1:"), "")
	for place := range api.MostRight - 1 {
		ahead, behind := strings.Repeat("1 ", place), strings.Repeat(" 0", api.MostRight-1-place)
		isRecursive(t, grammar(3, "1:; 2: a; 0: "+ahead+"2"+behind), "")
		isRecursive(t, grammar(3, "1:; 2:; 0: "+ahead+"2"+behind), "0")
	}
}

// P13.1: one that stands only behind itself, where it is nullable and where it is not.
func TestBehindItself(t *testing.T) {
	isRecursive(t, grammar(1, "0: 0 0; 0: a"), "0")
	isRecursive(t, grammar(1, "0: 0 0; 0:"), "0")
	isRecursive(t, grammar(1, "0: a 0 0; 0:"), "")
	isRecursive(t, grammar(2, "0: 1; 1: a 1"), "")
	isRecursive(t, grammar(2, "0: 0 1; 1: 0; 0: a"), "0")
	isRecursive(t, grammar(2, "0: 0 1; 1: 0; 0:"), "0 1")
	isRecursive(t, grammar(2, "0: 1 0; 1: 0"), "0 1")
	isRecursive(t, grammar(2, "0: 1 0; 1: a 0; 0:"), "")
	isRecursive(t, grammar(2, "0: 1 0; 1: a 0; 1:"), "0")
	isRecursive(t, grammar(3, "0: 1 0; 1: 2; 2: 1; 0:"), "1 2")
	isRecursive(t, grammar(3, "0: 1 0; 1: 2; 2: 1; 2:"), "0 1 2")
}

// P13.1: ways through other nonterminals, of two steps and of more.
func TestThroughOthers(t *testing.T) {
	isRecursive(t, grammar(2, "0: 1; 1: 0"), "0 1")
	isRecursive(t, grammar(2, "0: 1 a; 1: 0 b; 0: c"), "0 1")
	isRecursive(t, grammar(2, "0: 1 a; 1: b 0"), "")
	isRecursive(t, grammar(3, "0: 1 a; 1: 2 0; 2:"), "0 1")
	isRecursive(t, grammar(3, "0: 1 a; 1: 2 0; 2: b"), "")
	isRecursive(t, grammar(3, "0: 2 1 a; 1: 2 0; 2: b; 2:"), "0 1")
	isRecursive(t, grammar(3, "0: 1; 1: 2; 2: 0"), "0 1 2")
	isRecursive(t, grammar(3, "0: 1; 1: 2; 2: a 0"), "")
	isRecursive(t, grammar(3, "0: 1; 1: 2; 2: 1"), "1 2")
	isRecursive(t, grammar(4, "0: 1; 1: 0; 2: 3; 3: 2"), "0 1 2 3")
	isRecursive(t, grammar(4, "0: 1; 1: 0; 2: 3; 3: a 2; 1: 2"), "0 1")
	isRecursive(t, grammar(5, "0: 1 2; 1: 3; 3: 4 2; 2: 1; 4:"), "1 2 3")
	isRecursive(t, grammar(5, "0: 1 2; 1: 3; 3: 4 2; 2: 0; 4:"), "0 1 2 3")
	isRecursive(t, grammar(5, "0: 1 2; 1: 3; 3: 4 2; 2: 0; 4: a"), "")
}

// orders are some in which nonterminals stand: rising, falling, and another.
func orders() []func(int) int {
	return []func(int) int{
		func(i int) int { return i },
		func(i int) int { return last - i },
		func(i int) int { return i * 7 % api.MostNons },
	}
}

// ring is one of as many nonterminals as there may be: each leads to the next one in an order, at the first place, or behind one more.
func ring(of func(int) int, ahead ...api.Sym) api.Grammar {
	g := grammar(api.MostNons, "")
	for i := range api.MostNons {
		to := non(of((i + 1) % api.MostNons))
		g.Prods = append(g.Prods, api.Prod{Left: of(i), Right: append(slices.Clone(ahead), to, api.Sym{N: 3})})
	}
	return g
}

// P13.1: round through as many nonterminals as there may be, in rising, in falling and in another order; and with one step missing, at each place.
func TestRound(t *testing.T) {
	const all = 1<<api.MostNons - 1
	for _, of := range orders() {
		g := ring(of)
		recursive(t, g, all)
		slices.Reverse(g.Prods)
		recursive(t, g, all)
		recursive(t, ring(of, api.Sym{N: 0}), 0)
		for i := range api.MostNons {
			g := ring(of)
			g.Prods[i].Right = slices.Insert(g.Prods[i].Right, 0, api.Sym{N: 1})
			recursive(t, g, 0)
			g.Prods = slices.Delete(g.Prods, i, i+1)
			recursive(t, g, 0)
			g.Prods = append(g.Prods, api.Prod{Left: of(i), Right: []api.Sym{non(of(i))}})
			recursive(t, g, 1<<of(i))
		}
	}
}

// P13.1: likewise, behind a nullable nonterminal of the ring itself, and behind one that is not nullable.
func TestRoundBehind(t *testing.T) {
	for _, of := range orders() {
		for i := range api.MostNons {
			g := ring(of, non(of(i)))
			recursive(t, g, 1<<of(i)) // to it all lead, and it leads to itself alone
			g.Prods = append(g.Prods, api.Prod{Left: of(i)})
			recursive(t, g, 1<<api.MostNons-1)
		}
	}
}

// P13.1: one that leads to a left-recursive nonterminal and is none itself.
func TestLeadsToOne(t *testing.T) {
	isRecursive(t, grammar(2, "0: 1; 1: 1"), "1")
	isRecursive(t, grammar(2, "1: 0; 0: 0"), "0")
	isRecursive(t, grammar(3, "0: 1; 1: 2; 2: 2 a; 2: b"), "2")
	isRecursive(t, grammar(3, "0: 1; 1: 2; 2: 1"), "1 2")
	isRecursive(t, grammar(3, "1: 2 a; 2: 1; 0: 1 0"), "1 2")
	isRecursive(t, grammar(4, "0: 1 2; 1: 1; 1:; 2: 3; 3: 2"), "1 2 3")
	isRecursive(t, grammar(4, "0: 1; 1: 1 a; 1: 2; 2: 3; 3: b"), "1")
	for _, of := range orders() {
		g := ring(of)
		g.Prods[last].Right[0] = non(of(last)) // the last one to itself, and so on
		recursive(t, g, 1<<of(last))
		g.Prods[last].Right[0] = non(of(last - 1))
		recursive(t, g, 1<<of(last)+1<<of(last-1))
	}
}

// P13.1: one to which nothing leads from Start is left-recursive all the same.
func TestNothingLeadsThere(t *testing.T) {
	isRecursive(t, grammar(2, "0: a; 1: 1"), "1")
	isRecursive(t, grammar(2, "0: a; 1: 1 a; 1: b"), "1")
	isRecursive(t, grammar(3, "0: a; 1: 2; 2: 1"), "1 2")
	isRecursive(t, grammar(3, "0: a; 1: 2 1; 2:"), "1")
	isRecursive(t, grammar(3, "0: a; 1: 2 1; 2: 0"), "")
	isRecursive(t, grammar(3, "0:; 1: 2 1; 2: 0"), "1")
	isRecursive(t, grammar(3, "1: 0; 2: 2; 0: a"), "2")
}

// P13.1: one without a production is none, and lets nothing through; one of which no word comes may be one.
func TestNoWord(t *testing.T) {
	isRecursive(t, grammar(1, ""), "")
	isRecursive(t, grammar(2, "0: 1"), "")
	isRecursive(t, grammar(2, "0: 1; 0: 1 0; 0: 0 1"), "0")
	isRecursive(t, grammar(2, "0: 1 0; 0: 1 1"), "")
	isRecursive(t, grammar(1, "0: 0"), "0")
	isRecursive(t, grammar(1, "0: 0 a; 0: 0 0"), "0")
	isRecursive(t, grammar(2, "0: 1; 1: 0 a"), "0 1")
	isRecursive(t, grammar(3, "0: 1 2; 1: 0 2"), "0 1")
	isRecursive(t, grammar(3, "0: 2 1; 1: 0; 2: 2 a"), "2")
	isRecursive(t, grammar(3, "0: a 2; 1: 2 1; 2: b 2; 1: c"), "")
}

// P13.1: the greatest nonterminal that there may be has its bit, alone and beside all others.
func TestGreatest(t *testing.T) {
	isRecursive(t, grammar(api.MostNons, "23: 23"), "23")
	isRecursive(t, grammar(api.MostNons, "23: 23; 0: 23"), "23")
	isRecursive(t, grammar(api.MostNons, "0: 23 a; 23: 0"), "0 23")
	isRecursive(t, grammar(api.MostNons, "0: 23 0; 23:"), "0")
	recursive(t, grammar(api.MostNons, "23: 23"), 0x800000)
	all := ""
	for n := range api.MostNons {
		all += strconv.Itoa(n) + ": " + strconv.Itoa(n) + " a;"
		recursive(t, grammar(api.MostNons, all), 1<<(n+1)-1)
		g := grammar(n+1, "")
		g.Prods = []api.Prod{{Left: n, Right: []api.Sym{non(n)}}}
		isRecursive(t, g, strconv.Itoa(n))
	}
	recursive(t, grammar(api.MostNons, all), 0xffffff)
	recursive(t, grammar(api.MostNons, strings.Replace(all, "23: 23", "23: a 23", 1)), 0x7fffff)
	recursive(t, grammar(api.MostNons, strings.Replace(all, "0: 0", "0: a 0", 1)), 0xfffffe)
}

// P13.1: behind one that is nullable only through others.
func TestNullableThroughOthers(t *testing.T) {
	isRecursive(t, grammar(4, "0: 1 0; 1: 2; 2: 3 3; 3:"), "0")
	isRecursive(t, grammar(4, "0: 1 0; 1: 2 3; 2:; 3: 2 2"), "0")
	isRecursive(t, grammar(4, "0: 1 0; 1: 2 3; 2:; 3: 2 a"), "")
	isRecursive(t, grammar(4, "0: 1 0; 1: 2 3; 2:; 3: 3"), "3")
	isRecursive(t, grammar(3, "0: 1 0; 1: 2; 2: 1; 2:"), "0 1 2")
	isRecursive(t, grammar(3, "0: 1 0; 1: 2; 2: 1"), "1 2")
	for _, of := range orders() {
		for at := 1; at < api.MostNons; at++ { // of(at) is not nullable but through all behind it
			g := ring(of)
			g.Prods[0].Right = []api.Sym{non(of(at)), non(of(0))}
			for i := 1; i <= last; i++ {
				g.Prods[i].Right = g.Prods[i].Right[:1]
			}
			g.Prods[last].Right = nil
			recursive(t, g, 1<<of(0))
			g.Prods[last].Right = []api.Sym{{N: 0}}
			recursive(t, g, 0)
		}
	}
}

// mayNot are grammars that may not be, by what is wrong with each; in most, but for that, both nonterminals would be left-recursive.
func mayNot() map[string]api.Grammar {
	with := func(change func(g *api.Grammar)) api.Grammar {
		g := grammar(2, "0: 1; 1: 0 0; 1: a 1; 0: b")
		g.Terms = 3
		change(&g)
		return g
	}
	return map[string]api.Grammar{
		"the empty grammar":        {},
		"Terms below 0":            with(func(g *api.Grammar) { g.Terms = -1 }),
		"Terms below 0, alone":     {Terms: -1, Nons: 2, Prods: []api.Prod{{Right: []api.Sym{{Non: true}}}}},
		"Terms far below 0, alone": {Terms: math.MinInt, Nons: 2, Prods: []api.Prod{{Right: []api.Sym{{Non: true}}}}},
		"Terms one more":           with(func(g *api.Grammar) { g.Terms = api.MostTerms + 1 }),
		"Terms far more":           with(func(g *api.Grammar) { g.Terms = math.MaxInt }),
		"Nons below 0":             with(func(g *api.Grammar) { g.Nons = -1 }),
		"Nons far below 0":         with(func(g *api.Grammar) { g.Nons = math.MinInt }),
		"Nons 0":                   with(func(g *api.Grammar) { g.Nons = 0 }),
		"Nons 0, no productions":   {Terms: 1},
		"Nons one more":            with(func(g *api.Grammar) { g.Nons = api.MostNons + 1 }),
		"Nons far more":            with(func(g *api.Grammar) { g.Nons = math.MaxInt }),
		"Start below 0":            with(func(g *api.Grammar) { g.Start = -1 }),
		"Start far below 0":        with(func(g *api.Grammar) { g.Start = math.MinInt }),
		"Start one more":           with(func(g *api.Grammar) { g.Start = 2 }),
		"Start one more, alone":    {Nons: 1, Start: 1, Prods: []api.Prod{{Right: []api.Sym{{Non: true}}}}},
		"productions one more":     {Nons: 2, Prods: slices.Repeat([]api.Prod{{Right: []api.Sym{{Non: true}}}}, api.MostProds+1)},
		"Left below 0":             with(func(g *api.Grammar) { g.Prods[2].Left = -1 }),
		"Left one more":            with(func(g *api.Grammar) { g.Prods[2].Left = 2 }),
		"the last Left one more":   with(func(g *api.Grammar) { g.Prods[3].Left = 2 }),
		"symbols one more":         with(func(g *api.Grammar) { g.Prods[2].Right = make([]api.Sym, api.MostRight+1) }),
		"a terminal below 0":       with(func(g *api.Grammar) { g.Prods[2].Right[0].N = -1 }),
		"a terminal one more":      with(func(g *api.Grammar) { g.Prods[2].Right[0].N = 3 }),
		"a terminal of none":       with(func(g *api.Grammar) { g.Terms = 0 }),
		"a nonterminal below 0":    with(func(g *api.Grammar) { g.Prods[2].Right[1].N = -1 }),
		"a nonterminal one more":   with(func(g *api.Grammar) { g.Prods[2].Right[1].N = 2 }),
		"a nonterminal far below":  with(func(g *api.Grammar) { g.Prods[1].Right[1].N = math.MinInt }),
		"a nonterminal far more":   with(func(g *api.Grammar) { g.Prods[1].Right[0].N = math.MaxInt }),
	}
}

// P13.1: 0 for a grammar that may not be.
func TestMayNotBe(t *testing.T) {
	for what, g := range mayNot() {
		if gram.Right(g) {
			t.Errorf("%s may be", what)
		}
		recursive(t, g, 0)
	}
	isRecursive(t, grammar(2, "0: 1; 1: 0 0; 1: a 1; 0: b"), "0 1")
}

// P13.1: 0 for a grammar of no productions, be they none or an empty list (R6).
func TestNoProductions(t *testing.T) {
	for nons := 1; nons <= api.MostNons; nons++ {
		for start := range nons {
			recursive(t, api.Grammar{Nons: nons, Start: start}, 0)
			recursive(t, api.Grammar{Terms: api.MostTerms, Nons: nons, Start: start, Prods: []api.Prod{}}, 0)
		}
	}
}

// P13.1: 0, too, where no production has a symbol; and as many productions, and symbols, as there may be: the last ones count.
func TestMost(t *testing.T) {
	recursive(t, api.Grammar{Nons: 1, Prods: make([]api.Prod, api.MostProds)}, 0)
	recursive(t, api.Grammar{Nons: 1, Prods: []api.Prod{{Right: []api.Sym{}}}}, 0)
	g := api.Grammar{Terms: api.MostTerms, Nons: api.MostNons}
	for i := range api.MostProds {
		n := i % api.MostNons
		g.Prods = append(g.Prods, api.Prod{Left: n, Right: slices.Repeat([]api.Sym{non((n + 1) % api.MostNons)}, api.MostRight)})
	}
	recursive(t, g, 0xffffff)
	g.Nons = api.MostNons - 1
	recursive(t, g, 0) // it may not be
	isRecursive(t, grammar(2, strings.Repeat("0: 1 1 1 1 1 1 1 a;", api.MostProds-2)+"0: 1 1 1 1 1 1 1 0; 1:"), "0")
	isRecursive(t, grammar(2, strings.Repeat("0: 1 1 1 1 1 1 1 a;", api.MostProds-2)+"0: 1 1 1 1 1 1 a 0; 1:"), "")
}
