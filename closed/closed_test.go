package closed_test

import (
	"slices"
	"strconv"
	"strings"
	"testing"

	"probate/api"
	"probate/chart"
	"probate/closed"
	"probate/gram"
	"probate/sound"
)

// grammar is one of so many nonterminals, whose Start is 0, and of productions parted by ";": numbers are nonterminals, and letters, from a on, terminals.
func grammar(nons int, text string) api.Grammar {
	g := api.Grammar{Terms: api.MostTerms, Nons: nons}
	for _, line := range strings.Split(text, ";") {
		left, right, ok := strings.Cut(line, ":")
		if !ok {
			continue
		}
		p := api.Prod{Left: number(left)}
		for _, s := range strings.Fields(right) {
			if s[0] >= 'a' {
				p.Right = append(p.Right, api.Sym{N: int(s[0] - 'a')})
			} else {
				p.Right = append(p.Right, api.Sym{Non: true, N: number(s)})
			}
		}
		g.Prods = append(g.Prods, p)
	}
	return g
}

// of is a grammar whose nonterminals are those that productions have.
func of(text string) api.Grammar {
	nons := 0
	for strings.Contains(";"+strings.ReplaceAll(text, " ", ""), ";"+strconv.Itoa(nons)+":") {
		nons++
	}
	return grammar(nons, text)
}

// from is a grammar with another Start.
func from(start int, g api.Grammar) api.Grammar {
	g.Start = start
	return g
}

// terms is a grammar of so many terminals.
func terms(many int, g api.Grammar) api.Grammar {
	g.Terms = many
	return g
}

func number(text string) int {
	n, err := strconv.Atoi(strings.TrimSpace(text))
	if err != nil {
		panic(err)
	}
	return n
}

// numbers are parted by spaces.
func numbers(text string) []int {
	var l []int
	for _, one := range strings.Fields(text) {
		l = append(l, number(one))
	}
	return l
}

// letters are tokens: a is 0.
func letters(text string) []int {
	var w []int
	for _, one := range text {
		w = append(w, int(one-'a'))
	}
	return w
}

// as is a text, so many times.
func as(text string, many int) string { return strings.Repeat(text, many) }

// item is one by its Prod, Dot and From.
func item(prod, dot, from int) api.Item {
	return api.Item{Prod: prod, Dot: dot, From: from}
}

// whole is the item of a production of which nothing is next.
func whole(g api.Grammar, prod, from int) api.Item {
	return item(prod, len(g.Prods[prod].Right), from)
}

// setsOf are sets parted by ";", of items parted by spaces, each of which is its Prod, Dot and From, parted by points.
func setsOf(text string) [][]api.Item {
	var l [][]api.Item
	for _, line := range strings.Split(text, ";") {
		var set []api.Item
		for _, one := range strings.Fields(line) {
			parts := strings.Split(one, ".")
			set = append(set, item(number(parts[0]), number(parts[1]), number(parts[2])))
		}
		l = append(l, set)
	}
	return l
}

// copied are sets of their own.
func copied(sets [][]api.Item) [][]api.Item {
	var c [][]api.Item
	for _, set := range sets {
		c = append(c, slices.Clone(set))
	}
	return c
}

// with are sets with an item more, the last one of its set.
func with(sets [][]api.Item, at int, it api.Item) [][]api.Item {
	c := copied(sets)
	c[at] = append(c[at], it)
	return c
}

// without are sets that have an item less.
func without(sets [][]api.Item, at int, it api.Item) [][]api.Item {
	c := copied(sets)
	c[at] = slices.DeleteFunc(c[at], func(one api.Item) bool { return one == it })
	return c
}

// roomy is a list behind whose end something stands; none stays none.
func roomy[T any](l []T, mark T) []T {
	if l == nil {
		return nil
	}
	long := make([]T, len(l)+2)
	copy(long, l)
	long[len(l)], long[len(l)+1] = mark, mark
	return long[:len(l)]
}

// sameRoom tells whether lists are the same, and what stands behind their ends, too.
func sameRoom[T comparable](a, b []T) bool {
	return len(a) == len(b) && slices.Equal(a[:cap(a)], b[:cap(b)])
}

// told asks several times, holds that the same is told (R4), that all that was handed in stays as it was, be it behind a list's end (R3), and tells it.
func told(t *testing.T, g api.Grammar, w []int, sets [][]api.Item, l []int, ask func(g api.Grammar, w []int, sets [][]api.Item, l []int) bool) bool {
	t.Helper()
	roomySets := func() [][]api.Item {
		c := roomy(sets, []api.Item{item(7, 77, 777)})
		for at := range c {
			c[at] = roomy(c[at], item(777, 77, 7))
		}
		return c
	}
	g2, w2, sets2, l2 := gram.Clone(g), roomy(w, -77), roomySets(), roomy(l, -77)
	oldW, oldSets, oldL := roomy(w, -77), roomySets(), roomy(l, -77)
	is := ask(g2, w2, sets2, l2)
	for range 2 {
		if ask(g2, w2, sets2, l2) != is {
			t.Fatalf("of %v, %v, %v, %v it told %v, and then %v", g, w, sets, l, is, !is)
		}
	}
	if !gram.Same(g, g2) || !sameRoom(w2, oldW) || !sameRoom(l2, oldL) || len(sets2) != len(oldSets) {
		t.Fatalf("of %v, %v, %v became %v, %v, %v", g, w, l, g2, w2, l2)
	}
	for at := range oldSets[:cap(oldSets)] {
		if !sameRoom(sets2[:cap(sets2)][at], oldSets[:cap(oldSets)][at]) {
			t.Fatalf("of %v became %v", sets, sets2)
		}
	}
	return is
}

// says holds what Closed tells.
func says(t *testing.T, g api.Grammar, w []int, sets [][]api.Item, want bool) {
	t.Helper()
	is := told(t, g, w, sets, nil, func(g api.Grammar, w []int, sets [][]api.Item, _ []int) bool {
		return closed.Closed(g, w, sets)
	})
	if is != want {
		t.Fatalf("Closed(%v, %v, %v): %v", g, w, sets, is)
	}
}

// closes holds that sets are closed.
func closes(t *testing.T, g api.Grammar, w []int, sets [][]api.Item) {
	t.Helper()
	if l := faults(g, w, sets); len(l) > 0 {
		t.Fatalf("of %v, %v, %v: worked out is %v", g, w, sets, l)
	}
	says(t, g, w, sets, true)
}

// open holds that sets aren't closed, for just these reasons.
func open(t *testing.T, g api.Grammar, w []int, sets [][]api.Item, why ...string) {
	t.Helper()
	if l := faults(g, w, sets); !slices.Equal(l, why) {
		t.Fatalf("of %v, %v, %v: worked out is %v, not %v", g, w, sets, l, why)
	}
	says(t, g, w, sets, false)
}

// eachMissing holds that sets aren't closed any more when any one of the least ones' items isn't there.
func eachMissing(t *testing.T, g api.Grammar, w []int, sets [][]api.Item) {
	t.Helper()
	for at, set := range least(g, w)[:len(sets)] {
		for _, it := range set {
			less := without(sets, at, it)
			if len(faults(g, w, less)) == 0 {
				t.Fatalf("of %v, %v, %v: worked out is nothing, without %v at %d", g, w, sets, it, at)
			}
			says(t, g, w, less, false)
		}
	}
}

// P19.1: the chapter's example.
func TestExample(t *testing.T) {
	g := api.Grammar{Terms: 1, Nons: 1, Prods: []api.Prod{{Left: 0, Right: []api.Sym{{N: 0}}}}}
	sets := [][]api.Item{{{Prod: 0, Dot: 0, From: 0}}, {{Prod: 0, Dot: 1, From: 0}}}
	if !closed.Closed(g, []int{0}, sets) {
		t.Error("not closed")
	}
	if !closed.Alone(g, []int{0}, sets, []int{0}) {
		t.Error("not alone")
	}
	if !gram.Same(g, terms(1, of("0: a"))) || !slices.EqualFunc(sets, setsOf("0.0.0; 0.1.0"), slices.Equal) {
		t.Error("a grammar, or sets, aren't what their text says")
	}
}

// some are grammars of which what follows is asked: of each kind of production, and such as aren't sound.
func some() []api.Grammar {
	return []api.Grammar{
		of("0: a"), of("0:"), of("0: a; 0: b"), of("0: a 0; 0:"), of("0: a 0; 0: b"), of("0: a 0 b; 0:"), of("0: 1 2; 1: a 1; 1: b; 2: c; 2:"), of("0: 1 1; 1:; 1: a"),
		of("0: a 0 0; 0: b; 0:"), of("0: 1; 1: 2; 2: a; 2: 3 a; 3:"), of("0: a b c d e f g h; 0: 1 1 1 1 1 1 1 1; 1:"), from(1, of("0: a; 1: b 0; 1: 0")),
		from(2, of("1: a; 0: b 1; 2: 0 1 0")), of("0: 1 2; 2: 1 1; 1:; 1: a"), of("0: 0 a; 0: a"), of("0: 0 0; 0: a; 0:"), of("0: a; 1: b; 1: 2; 2: 1"), grammar(2, "0: a 1; 0: b"),
		grammar(1, ""), grammar(3, "1: a; 2: 0"), of("0: 0; 0: a"), of("0: 1 0 a; 0: b; 1:"),
	}
}

// P19.1: no sets, be they none or an empty list, whatever the word and the grammar are, also where nothing must be there.
func TestNoSets(t *testing.T) {
	for _, g := range some() {
		for _, w := range [][]int{nil, {}, {0}, {1, 0}, {-1}, letters(as("a", api.MostWord)), letters(as("a", api.MostWord+1))} {
			open(t, g, w, nil, "none")
			open(t, g, w, [][]api.Item{}, "none")
			open(t, g, w, make([][]api.Item, 0, 4), "none")
			closes(t, g, w, least(g, w)[:1])
		}
	}
	closes(t, grammar(1, ""), nil, [][]api.Item{nil}) // R6: an empty set, be it none or an empty list
	closes(t, grammar(1, ""), nil, [][]api.Item{{}})
	closes(t, grammar(1, ""), []int{}, make([][]api.Item, 1, 3))
	open(t, of("0:"), nil, [][]api.Item{nil}, "start")
	open(t, of("0:"), nil, [][]api.Item{{}}, "start")
}

// P19.1: just as many sets as the word has tokens, and one more, of words of each length; and more than that, be they empty, or such that nothing else is wrong.
func TestHowManySets(t *testing.T) {
	for _, g := range some() {
		for many := range api.MostWord + 1 {
			for _, text := range []string{as("a", many), as("b", many), as("a", many/2) + as("c", many-many/2)} {
				w := letters(text)
				sets := least(g, w)
				if len(sets) != many+1 {
					t.Fatalf("%d sets of %d tokens", len(sets), many)
				}
				closes(t, g, w, sets)
				open(t, g, w, append(copied(sets), nil), "many")
				open(t, g, w, append(copied(sets), []api.Item{}), "many")
				open(t, g, w, append(copied(sets), nil, nil), "many")
			}
		}
		for many := range 3 {
			w := letters(as("a", many))
			closes(t, g, w, full(g, many+1))
			open(t, g, w, full(g, many+2), "many")
			open(t, g, w, full(g, many+9), "many")
			longer := letters(as("a", many+1)) // of which each set may be
			open(t, g, w, least(g, longer), "many")
			closes(t, g, longer, least(g, longer))
		}
	}
	open(t, of("0: a"), nil, make([][]api.Item, 2), "many", "start")
	open(t, grammar(1, ""), nil, make([][]api.Item, 2), "many")
	open(t, grammar(1, ""), nil, make([][]api.Item, 30000), "many")
	closes(t, grammar(1, ""), make([]int, 30000), make([][]api.Item, 30001))
	closes(t, of("0: a"), letters(as("a", 1000)), setsOf("0.0.0; 0.1.0"+as(";", 999)))
}

// P19.1: fewer sets than the word has places, down to one: what would stand in a set that there isn't is not asked for, and all else is.
func TestFewerSets(t *testing.T) {
	for _, g := range some() {
		for _, text := range []string{"", "a", "b", "ab", "aab", "aaaa", "abc", "bca", "aaaaaaaaaaaab", as("a", api.MostWord)} {
			w := letters(text)
			all := least(g, w)
			for many := 1; many <= len(all); many++ {
				closes(t, g, w, all[:many])
				if many < 6 {
					eachMissing(t, g, w, all[:many])
				}
				closes(t, g, slices.Concat(w, letters("ap"), []int{-1, 99}), all[:many])
			}
		}
	}
	closes(t, of("0: a b"), letters("ab"), setsOf("0.0.0"))
	open(t, of("0: a b"), letters("ab"), setsOf("0.0.0;"), "token")
	closes(t, of("0: a b"), letters("ab"), setsOf("0.0.0; 0.1.0"))
	open(t, of("0: a b"), letters("ab"), setsOf("0.0.0; 0.1.0;"), "token")
	closes(t, of("0: a b"), letters("ab"), setsOf("0.0.0; 0.1.0; 0.2.0"))
	open(t, of("0: a b"), letters("ab"), setsOf("0.0.0; 0.1.0; 0.2.0;"), "many")
}

// P19.1: of a word that doesn't fit the grammar only the number of its tokens counts, and what they are.
func TestWordThatDoesNotFit(t *testing.T) {
	for _, g := range some() {
		for _, g := range []api.Grammar{g, terms(8, g)} { // with a to h as terminals alone
			for _, w := range [][]int{
				{-1}, {api.MostTerms}, {8}, {lowest}, {highest}, {0, -1}, {-1, 0}, {0, api.MostTerms, 0}, {0, 1, 2, lowest, 0}, {highest, highest, highest}, {0, 0, 1 << 32}, {0, 256}, {1 << 32, 1},
				letters(as("a", api.MostWord+1)), letters(as("a", api.MostWord) + "b"), append(letters(as("a", api.MostWord)), -1, 99),
			} {
				sets := least(g, w)
				closes(t, g, w, sets)
				closes(t, g, w, sets[:len(sets)/2+1])
				eachMissing(t, g, w, sets[:min(len(sets), 3)])
				last := len(sets) - 1
				for _, it := range sets[last] {
					says(t, g, w, without(sets, last, it), false)
				}
				open(t, g, w, append(copied(sets), nil), "many")
			}
		}
	}
	g := terms(1, of("0: a 0; 0: a")) // a token counts as what it is, not as what is left of it in fewer bits
	for _, tok := range []int{-1, 1, 2, 16, 256, 65536, 1 << 32, lowest, highest} {
		closes(t, g, []int{tok}, setsOf("0.0.0 1.0.0;"))
		open(t, g, []int{0}, setsOf("0.0.0 1.0.0;"), "token")
	}
}

// P19.1: no sets are closed of a grammar that may not be, of each sort, though nothing else is wrong.
func TestMayNotBe(t *testing.T) {
	lists := [][]int{nil, {0}, {0, 2, 1, 3}, {0, 2, 1}, {1}, {0, 3, 1}}
	for what, g := range mayNot() {
		if gram.Right(g) {
			t.Errorf("%s may be", what)
		}
		for _, w := range [][]int{nil, {}, {0}, {1}, {0, 2, 1}, {0, 1, 0}, {2}, {-1}, letters(as("a", api.MostWord+1))} {
			sets := least(g, w)
			for many := 1; many <= len(sets); many++ {
				open(t, g, w, sets[:many], "grammar")
			}
			open(t, g, w, make([][]api.Item, len(w)+1), "grammar")
			open(t, g, w, nil, "grammar")
			for _, l := range lists {
				doubted(t, g, w, sets, l, "closed", "derivation")
			}
		}
	}
	g := terms(3, of("0: a 1 0; 0: b; 1: c; 1:"))
	closes(t, g, letters("acb"), least(g, letters("acb")))
	alone(t, g, letters("acb"), least(g, letters("acb")), numbers("0 2 1"))
}

// mayNot are grammars that may not be, by what is wrong with each; but for that most are sound.
func mayNot() map[string]api.Grammar {
	but := func(change func(g *api.Grammar)) api.Grammar {
		g := terms(3, of("0: a 1 0; 0: b; 1: c; 1:"))
		change(&g)
		return g
	}
	return map[string]api.Grammar{
		"the empty grammar":          {},
		"Terms below 0":              but(func(g *api.Grammar) { g.Terms = -1 }),
		"Terms below 0, alone":       {Terms: -1, Nons: 1, Prods: []api.Prod{{}}},
		"Terms far below 0":          {Terms: lowest, Nons: 1, Prods: []api.Prod{{}}},
		"Terms one less":             but(func(g *api.Grammar) { g.Terms = 2 }),
		"Terms one more":             but(func(g *api.Grammar) { g.Terms = api.MostTerms + 1 }),
		"Terms far more":             but(func(g *api.Grammar) { g.Terms = highest }),
		"Nons below 0":               but(func(g *api.Grammar) { g.Nons = -1 }),
		"Nons far below 0":           but(func(g *api.Grammar) { g.Nons = lowest }),
		"Nons 0":                     but(func(g *api.Grammar) { g.Nons = 0 }),
		"Nons one less":              but(func(g *api.Grammar) { g.Nons = 1 }),
		"Nons one more":              but(func(g *api.Grammar) { g.Nons = api.MostNons + 1 }),
		"Nons far more":              but(func(g *api.Grammar) { g.Nons = highest }),
		"Start below 0":              but(func(g *api.Grammar) { g.Start = -1 }),
		"Start far below 0":          but(func(g *api.Grammar) { g.Start = lowest }),
		"Start one more":             but(func(g *api.Grammar) { g.Start = 2 }),
		"Start far more":             but(func(g *api.Grammar) { g.Start = highest }),
		"productions one more":       but(func(g *api.Grammar) { g.Prods = slices.Repeat(g.Prods, 16)[:api.MostProds+1] }),
		"empty productions one more": {Nons: 1, Prods: make([]api.Prod, api.MostProds+1)},
		"Left below 0":               but(func(g *api.Grammar) { g.Prods[3].Left = -1 }),
		"Left one more":              but(func(g *api.Grammar) { g.Prods[3].Left = 2 }),
		"Left MostNons":              but(func(g *api.Grammar) { g.Prods[3].Left = api.MostNons }),
		"Left far more":              but(func(g *api.Grammar) { g.Prods[3].Left = highest }),
		"Left and Start one more":    {Nons: 1, Start: 1, Prods: []api.Prod{{Left: 1}}},
		"symbols one more":           but(func(g *api.Grammar) { g.Prods[2].Right = make([]api.Sym, api.MostRight+1) }),
		"a terminal below 0":         but(func(g *api.Grammar) { g.Prods[2].Right[0].N = -1 }),
		"a terminal one more":        but(func(g *api.Grammar) { g.Prods[2].Right[0].N = 3 }),
		"a terminal far more":        but(func(g *api.Grammar) { g.Prods[2].Right[0].N = highest }),
		"a nonterminal below 0":      but(func(g *api.Grammar) { g.Prods[0].Right[2].N = -1 }),
		"a nonterminal one more":     but(func(g *api.Grammar) { g.Prods[0].Right[2].N = 2 }),
		"a nonterminal far below 0":  but(func(g *api.Grammar) { g.Prods[0].Right[2].N = lowest }),
		"a nonterminal far more":     but(func(g *api.Grammar) { g.Prods[0].Right[2].N = highest }),
		"all of it":                  {Terms: -1, Nons: -1, Start: -1, Prods: []api.Prod{{Left: -1, Right: []api.Sym{{N: -1}, {Non: true, N: -1}}}}},
	}
}

// P19.1: a grammar that may be and isn't sound is answered as any other.
func TestUnsound(t *testing.T) {
	for text, e := range map[string]api.Errno{
		"0: a 0": api.ErrDead, "0: a; 0: 1; 1: b 1": api.ErrDead, "0: 0": api.ErrDead, "0: a; 1: b": api.ErrAlone, "0: a 0; 0: b; 1: 0; 2: 1": api.ErrAlone,
		"0: 0 a; 0: a": api.ErrLeft, "0: 0; 0: a": api.ErrLeft, "0: 0 0; 0: a": api.ErrLeft, "0: 1 0; 0: a; 1:; 1: b": api.ErrLeft, "0: 1; 1: 2; 2: 0; 2: a": api.ErrLeft,
	} {
		g := of(text)
		if _, got := sound.Check(g); got != e {
			t.Fatalf("%s: %v, not %v", text, got, e)
		}
		for _, w := range words(2, 3) {
			sets := least(g, letters(w))
			closes(t, g, letters(w), sets)
			eachMissing(t, g, letters(w), sets)
			closes(t, g, letters(w), full(g, len(w)+1))
			eachMissing(t, g, letters(w), full(g, len(w)+1))
		}
		if sets := chart.Sets(g, nil); sets != nil {
			t.Errorf("%s has sets", text)
		}
	}
	tells := func(g api.Grammar, w, sets string) {
		t.Helper()
		closes(t, g, letters(w), setsOf(sets))
		eachMissing(t, g, letters(w), setsOf(sets))
	}
	tells(of("0: 0 a; 0: a"), "aa", "0.0.0 1.0.0; 1.1.0 0.1.0; 0.2.0 0.1.0")
	tells(of("0: 0; 0: a"), "a", "0.0.0 1.0.0; 1.1.0 0.1.0")
	tells(of("0: 0 0; 0:"), "", "0.0.0 1.0.0 0.1.0 0.2.0")
	tells(of("0: a 0"), "ab", "0.0.0; 0.1.0 0.0.1;")
	tells(grammar(1, ""), "ab", ";;")
	tells(grammar(2, "0: 1 a; 0: b"), "b", "0.0.0 1.0.0; 1.1.0")
	tells(from(1, of("0: a; 1: b")), "b", "1.0.0; 1.1.0")
}
