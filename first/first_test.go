package first_test

import (
	"math"
	"slices"
	"strconv"
	"strings"
	"testing"

	"probate/api"
	"probate/first"
	"probate/gram"
)

// symbols are those of a text: numbers are nonterminals, and letters, from a on, terminals.
func symbols(text string) []api.Sym {
	var l []api.Sym
	for _, s := range strings.Fields(text) {
		if s[0] >= 'a' {
			l = append(l, api.Sym{N: int(s[0] - 'a')})
		} else {
			l = append(l, api.Sym{Non: true, N: number(s)})
		}
	}
	return l
}

// grammar is one of so many nonterminals, and of productions parted by ";".
func grammar(nons int, text string) api.Grammar {
	g := api.Grammar{Terms: api.MostTerms, Nons: nons}
	for _, line := range strings.Split(text, ";") {
		if left, right, ok := strings.Cut(line, ":"); ok {
			g.Prods = append(g.Prods, api.Prod{Left: number(left), Right: symbols(right)})
		}
	}
	return g
}

func number(text string) int {
	n, err := strconv.Atoi(strings.TrimSpace(text))
	if err != nil {
		panic(err)
	}
	return n
}

// set is that of a text's letters; - is the empty one.
func set(text string) uint32 {
	n := uint32(0)
	for _, c := range text {
		if c != '-' {
			n += 1 << (c - 'a')
		}
	}
	return n
}

// sets are those of a text, parted by spaces.
func sets(text string) []uint32 {
	var l []uint32
	for _, s := range strings.Fields(text) {
		l = append(l, set(s))
	}
	return l
}

// told holds the sets of a grammar, that they are told again when what was told is changed, and that the grammar stays as it was (R3, R4).
func told(t *testing.T, g api.Grammar, want []uint32) {
	t.Helper()
	before := gram.Clone(g)
	for range 3 {
		l := first.First(g)
		if l == nil || !slices.Equal(l, want) {
			t.Errorf("First(%v): %b, not %b", g, l, want)
			return
		}
		for i := range l {
			l[i] = math.MaxUint32
		}
		_ = append(l, 77)
		if !gram.Same(g, before) {
			t.Errorf("First changed %v to %v", before, g)
			return
		}
	}
}

// tells holds the sets of a grammar, as texts.
func tells(t *testing.T, g api.Grammar, want string) {
	t.Helper()
	told(t, g, sets(want))
}

// P11.1: the chapter's example, set by set.
func TestExample(t *testing.T) {
	g := api.Grammar{Terms: 2, Nons: 2, Prods: []api.Prod{
		{Left: 0, Right: []api.Sym{{Non: true, N: 1}, {N: 1}}},
		{Left: 1, Right: []api.Sym{{N: 0}}},
		{Left: 1},
	}}
	l := first.First(g)
	if len(l) != 2 || l[0] != 3 || l[1] != 1 {
		t.Errorf("First: %v", l)
	}
	tells(t, g, "ab a")
	if g.Terms = api.MostTerms; !gram.Same(g, grammar(2, "0: 1 b; 1: a; 1:")) {
		t.Error("a grammar isn't what its text says")
	}
}

// P11.1: bit k is for terminal k, from the lowest one to the greatest, of just so many terminals, and of more.
func TestBits(t *testing.T) {
	for k := range api.MostTerms {
		for terms := k + 1; terms <= api.MostTerms; terms++ {
			g := api.Grammar{Terms: terms, Nons: 1, Prods: []api.Prod{{Right: []api.Sym{{N: k}}}}}
			told(t, g, []uint32{1 << k})
		}
		g := grammar(3, "")
		for n := range k + 1 {
			g.Prods = append(g.Prods, api.Prod{Left: n % 2, Right: []api.Sym{{N: n}}})
		}
		all := uint32(1)<<(k+1) - 1
		told(t, g, []uint32{all & 0x5555, all & 0xaaaa, 0})
		g.Prods = append(g.Prods, grammar(3, "2: 1; 2: 0").Prods...)
		told(t, g, []uint32{all & 0x5555, all & 0xaaaa, all})
	}
	tells(t, grammar(1, "0: a"), "a")
	tells(t, grammar(1, "0: p"), "p")
	told(t, grammar(1, "0: a; 0: p"), []uint32{0x8001})
	told(t, grammar(1, "0: a; 0: b; 0: c; 0: d; 0: e; 0: f; 0: g; 0: h; 0: i; 0: j; 0: k; 0: l; 0: m; 0: n; 0: o; 0: p"), []uint32{0xffff})
}

// P11.1: a terminal behind a terminal is not in the set, nor is what a nonterminal behind one begins with.
func TestBehindTerminal(t *testing.T) {
	tells(t, grammar(1, "0: a b"), "a")
	tells(t, grammar(1, "0: b a b c"), "b")
	tells(t, grammar(1, "0: a a a b"), "a")
	tells(t, grammar(1, "0: p o n m l k j i"), "p")
	tells(t, grammar(2, "0: a 1; 1: b"), "a b")
	tells(t, grammar(2, "0: a 1 c; 1: b; 1:"), "a b")
	tells(t, grammar(2, "0: 1 a b; 1:"), "a -")
	tells(t, grammar(2, "0: 1 a 1 b; 1: c; 1:"), "ac c")
	tells(t, grammar(3, "0: a 1 2; 1:; 2: b; 1: c; 2:"), "a c b")
}

// P11.1: a terminal behind one nullable nonterminal, and behind several, is in the set; and nullable they are by themselves, or through others.
func TestBehindNullable(t *testing.T) {
	tells(t, grammar(2, "0: 1 a; 1:"), "a -")
	tells(t, grammar(2, "0: 1 1 a; 1:"), "a -")
	tells(t, grammar(2, "0: 1 1 1 1 1 1 1 a; 1: b; 1:"), "ab b")
	tells(t, grammar(3, "0: 1 2 a; 1:; 2:"), "a - -")
	tells(t, grammar(3, "0: 1 2 a; 1: b; 1:; 2: c; 2:"), "abc b c")
	tells(t, grammar(3, "0: 2 1 a; 1: b; 1:; 2: c; 2:"), "abc b c")
	tells(t, grammar(3, "2:; 2: c; 1: 2; 1: b; 0: 1 a"), "abc bc c")
	tells(t, grammar(3, "0: 1 a; 1: 2 2; 1: b; 2: c; 2:"), "abc bc c")
	tells(t, grammar(4, "0: 1 a; 1: 2 3; 2: 3 3; 3: d; 3:"), "ad d d d")
	tells(t, grammar(4, "3:; 3: d; 2: 3 3; 1: 2 3; 0: 1 a"), "ad d d d")
	tells(t, grammar(4, "0: 1 2 3 a; 1:; 2: b; 2: 1; 3: c 0; 3: 2 1"), "abc - b bc")
	tells(t, grammar(8, "0: 1 2 3 4 5 6 7 a; 1:; 2:; 3:; 4:; 5:; 6:; 7:"), "a - - - - - - -")
	tells(t, grammar(8, "0: 1 2 3 4 5 6 7 a; 1: b; 2: c; 3: d; 4: e; 5: f; 6: g; 7: h; 1:; 2:; 3:; 4:; 5:; 6:; 7:"), "abcdefgh b c d e f g h")
}

// P11.1: a terminal behind a nonterminal that is not nullable is not in the set, nor is what stands behind it, at each place of a production.
func TestBehindNotNullable(t *testing.T) {
	tells(t, grammar(2, "0: 1 a; 1: b"), "b b")
	tells(t, grammar(2, "0: 1 a"), "- -")
	tells(t, grammar(2, "0: 1 a; 1: 1"), "- -")
	tells(t, grammar(2, "0: 1 1 a; 1: b 1; 1: c"), "bc bc")
	tells(t, grammar(3, "0: 1 2 a; 1:; 2: b"), "b - b")
	tells(t, grammar(3, "0: 2 1 a; 1:; 2: b"), "b - b")
	tells(t, grammar(3, "0: 2 1 a; 1: c; 1:; 2: b"), "b c b")
	tells(t, grammar(4, "0: 1 2 3 a; 1:; 1: b; 2: 1 c; 3: d; 3:"), "bc b bc d")
	tells(t, grammar(4, "0: 1 2 3; 1: 2; 2: 3; 3: a"), "a a a a")
	for ends := range api.MostRight {
		text, want := "0:", ""
		for i := range api.MostRight {
			text += " " + strconv.Itoa(i+1)
		}
		for i := range api.MostRight {
			letter := string(rune('a' + i))
			text += ";" + strconv.Itoa(i+1) + ": " + letter
			if i != ends {
				text += ";" + strconv.Itoa(i+1) + ":"
			}
			want += " " + letter
		}
		tells(t, grammar(1+api.MostRight, text), "abcdefgh"[:ends+1]+want)
	}
}

// chain is one in which each nonterminal calls the next, and the last one's production ends so; it is told by what becomes of each number.
func chain(end string, of func(non int) int) string {
	var b strings.Builder
	for i := range api.MostNons - 1 {
		b.WriteString(strconv.Itoa(of(i)) + ": " + strconv.Itoa(of(i+1)) + ";")
	}
	b.WriteString(strconv.Itoa(of(api.MostNons-1)) + ":" + end)
	return b.String()
}

// eachWay goes through chains in rising and in falling order of nonterminals, and of productions.
func eachWay(end string, do func(g api.Grammar)) {
	for _, of := range []func(non int) int{
		func(non int) int { return non },
		func(non int) int { return api.MostNons - 1 - non },
		func(non int) int { return non * 7 % api.MostNons },
	} {
		g := grammar(api.MostNons, chain(end, of))
		do(g)
		slices.Reverse(g.Prods)
		do(g)
	}
}

// P11.1: a set that comes through others, in a chain of as many nonterminals as there may be.
func TestChains(t *testing.T) {
	all := func(of string) []uint32 { return slices.Repeat(sets(of), api.MostNons) }
	eachWay("c", func(g api.Grammar) { told(t, g, all("c")) })
	eachWay("p a", func(g api.Grammar) { told(t, g, all("p")) })
	eachWay("", func(g api.Grammar) { told(t, g, all("-")) })
	for place := range api.MostNons {
		eachWay("c", func(g api.Grammar) { // one more in the midst, and what leads there has it, too
			end := slices.IndexFunc(g.Prods, func(p api.Prod) bool { return !p.Right[0].Non })
			last := g.Prods[end].Left
			want := all("c")
			g.Prods = append(g.Prods, api.Prod{Left: place, Right: symbols("h")})
			for non := place; ; {
				want[non] |= set("h")
				at := slices.IndexFunc(g.Prods, func(p api.Prod) bool { return p.Right[0] == api.Sym{Non: true, N: non} })
				if at < 0 {
					break
				}
				non = g.Prods[at].Left
			}
			told(t, g, want)
			g.Prods = append(g.Prods, api.Prod{Left: last, Right: []api.Sym{{Non: true, N: place}}})
			for non := place; non != last; {
				at := slices.IndexFunc(g.Prods, func(p api.Prod) bool { return p.Left == non && p.Right[0].Non })
				non = g.Prods[at].Right[0].N
				want[non] |= set("h")
			}
			told(t, g, want)
		})
	}
}

// P11.1: a set that comes through others behind nullable ones, each of which has a terminal of its own, in long chains.
func TestLongNullableChains(t *testing.T) {
	const last = api.MostNons - 1
	for _, back := range []bool{false, true} {
		for _, of := range []func(non int) int{
			func(non int) int { return non },
			func(non int) int { return last - non },
		} {
			g := grammar(api.MostNons, "")
			want := make([]uint32, api.MostNons)
			for i := range last {
				g.Prods = append(g.Prods, api.Prod{Left: of(i), Right: []api.Sym{{Non: true, N: of(i + 1)}, {N: i % api.MostTerms}}})
			}
			g.Prods = append(g.Prods, api.Prod{Left: of(last)})
			for i := range last {
				want[of(i)] = 1 << ((last - 1) % api.MostTerms)
			}
			if back {
				slices.Reverse(g.Prods)
			}
			told(t, g, want) // the last of the chain is nullable, and who calls it is not
			for i := range last {
				g.Prods = append(g.Prods, api.Prod{Left: of(i)})
				for j := range i + 1 {
					want[of(j)] |= 1 << (i % api.MostTerms)
				}
			}
			told(t, g, want)
		}
	}
}

// P11.1: nonterminals that call themselves, and each other, at the front.
func TestRings(t *testing.T) {
	tells(t, grammar(1, "0: 0"), "-")
	tells(t, grammar(1, "0: 0 a"), "-")
	tells(t, grammar(1, "0: 0 a; 0: b"), "b")
	tells(t, grammar(1, "0: b; 0: 0 a"), "b")
	tells(t, grammar(1, "0: 0 a; 0:"), "a")
	tells(t, grammar(1, "0:; 0: 0 a; 0: 0 0 b"), "ab")
	tells(t, grammar(1, "0: 0 0; 0: c; 0: 0 d"), "c")
	tells(t, grammar(2, "0: 1; 1: 0"), "- -")
	tells(t, grammar(2, "0: 1; 1: 0; 0: a"), "a a")
	tells(t, grammar(2, "0: 1; 1: 0; 1: a"), "a a")
	tells(t, grammar(2, "0: 1 c; 1: 0 d; 0: a; 1: b"), "ab ab")
	tells(t, grammar(2, "0: 1 c; 1: 0 d; 0: a; 1:"), "ac ac")
	tells(t, grammar(2, "0: 1 c; 1: 0 d; 0:; 1:"), "cd cd")
	tells(t, grammar(3, "0: 1; 1: 2; 2: 0; 1: b"), "b b b")
	tells(t, grammar(3, "2: 0; 1: 2; 0: 1; 0: a; 1: b; 2: c"), "abc abc abc")
	tells(t, grammar(3, "0: 1; 1: 1; 2: a; 2: 0; 1: b"), "b b ab")
	for i := range api.MostNons {
		text := strconv.Itoa(i) + ": a; " + strconv.Itoa(api.MostNons-1) + ": 0"
		for j := range api.MostNons - 1 {
			text += ";" + strconv.Itoa(j) + ": " + strconv.Itoa(j+1)
		}
		told(t, grammar(api.MostNons, text), slices.Repeat(sets("a"), api.MostNons))
	}
}

// P11.1: nonterminals that call themselves, and each other, behind nullable ones.
func TestRingsBehindNullable(t *testing.T) {
	tells(t, grammar(2, "0: 1 0; 1:"), "- -")
	tells(t, grammar(2, "0: 1 0 a; 1: b; 1:"), "b b")
	tells(t, grammar(2, "0: 1 0 a; 1: b; 1:; 0:"), "ab b")
	tells(t, grammar(2, "0: 1 0 a; 1: b; 1:; 0: c"), "bc b")
	tells(t, grammar(3, "0: 2 1; 1: 2 0; 2:; 1: a; 0: b"), "ab ab -")
	tells(t, grammar(3, "0: 2 1; 1: 2 2 0; 2: c; 2:; 1: a; 0: b"), "abc abc c")
	tells(t, grammar(3, "0: 2 1; 1: 0; 2: c; 1: a; 0: b"), "bc abc c")
	tells(t, grammar(3, "0: 1 0; 1: 2 1; 2: 0 2; 0:; 1:; 2:; 2: c; 1: b; 0: a"), "abc abc abc")
	tells(t, grammar(3, "0: 1 0; 1: 2 1; 2: 0 2; 1:; 2:; 2: c; 1: b; 0: a"), "abc abc abc")
	tells(t, grammar(3, "0: 1 0; 1: 2 1; 2: 0 2; 2: c; 1: b; 0: a"), "abc abc abc")
	tells(t, grammar(3, "0: 1 0; 1: 2 1; 2: a 2; 2: c; 1: b; 0: d"), "abcd abc ac")
}

// P11.1: a nullable nonterminal's set may have terminals, and what calls it has them, be it nullable or not.
func TestNullableWithSet(t *testing.T) {
	tells(t, grammar(1, "0: a; 0:"), "a")
	tells(t, grammar(1, "0:; 0: a 0"), "a")
	tells(t, grammar(2, "0: 1; 1: a; 1:"), "a a")
	tells(t, grammar(2, "0: 1 1; 1: a b; 1:; 1: c"), "ac ac")
	tells(t, grammar(2, "0: 1 b; 1: a 1; 1:; 0:"), "ab a")
	tells(t, grammar(3, "0: 1 2; 1: a; 1:; 2: b; 2:"), "ab a b")
	tells(t, grammar(3, "0: 1 2; 1: a; 1:; 2: b 0"), "ab a b")
}

// P11.1: of a nonterminal without a production, and of one of which no word comes, what stands ahead is in the set all the same.
func TestNoWord(t *testing.T) {
	tells(t, grammar(2, "0: a"), "a -")
	tells(t, grammar(2, "1: a"), "- a")
	tells(t, grammar(2, "0: 1"), "- -")
	tells(t, grammar(2, "0: a 1"), "a -")
	tells(t, grammar(2, "0: 1 a"), "- -")
	tells(t, grammar(1, "0: a 0"), "a")
	tells(t, grammar(1, "0: a 0; 0: b 0 c"), "ab")
	tells(t, grammar(2, "0: 1; 1: b 1"), "b b")
	tells(t, grammar(3, "0: 1 c; 1: b 2"), "b b -")
	tells(t, grammar(3, "0: 2 1 a; 2: c; 2:"), "c - c")
	tells(t, grammar(3, "0: 2 b 1; 2:"), "b - -")
	tells(t, grammar(3, "0: 2 1 b; 2:; 1: 0; 1: a 1"), "a a -")
}

// P11.1: a production of no symbols puts nothing in; and of no productions, and of no terminals, all sets are empty.
func TestEmpty(t *testing.T) {
	tells(t, grammar(1, "0:"), "-")
	tells(t, grammar(1, "0:; 0:"), "-")
	tells(t, grammar(2, "1:; 0: a; 1:"), "a -")
	for nons := 1; nons <= api.MostNons; nons++ {
		for start := range nons {
			told(t, api.Grammar{Terms: nons % 3, Nons: nons, Start: start}, make([]uint32, nons))
		}
		g := api.Grammar{Nons: nons}
		for i := range api.MostProds {
			p := api.Prod{Left: i % nons}
			for j := range i % (api.MostRight + 1) {
				p.Right = append(p.Right, api.Sym{Non: true, N: (i + j) % nons})
			}
			g.Prods = append(g.Prods, p)
		}
		told(t, g, make([]uint32, nons))
	}
}

// P11.1: sets of several productions of one nonterminal are put together, wherever they stand, and as many as there may be.
func TestSeveral(t *testing.T) {
	tells(t, grammar(1, "0: a; 0: b c; 0: d"), "abd")
	tells(t, grammar(1, "0: a; 0: a b; 0: a"), "a")
	tells(t, grammar(2, "0: a; 1: b; 0: c; 1: d; 0:"), "ac bd")
	tells(t, grammar(3, "0: 1; 1: a; 0: 2; 2: b; 0: c; 1: d"), "abcd ad b")
	tells(t, grammar(3, "0: c; 0: 2; 2: b; 0: 1; 1: d; 1: a"), "abcd ad b")
	tells(t, grammar(3, "1: 2 a; 2: b; 2: c; 0: 1; 0: 2; 1: d 0"), "bcd bcd bc")
	tells(t, grammar(2, strings.Repeat("0: a;", api.MostProds-1)+"1: b"), "a b")
	tells(t, grammar(2, strings.Repeat("0: a;", api.MostProds-1)+"0: b"), "ab -")
	tells(t, grammar(2, "0: b;"+strings.Repeat("0: 1;", api.MostProds-2)+"1: a"), "ab a")
}

// P11.1: the Start changes nothing.
func TestStart(t *testing.T) {
	for start := range 4 {
		g := grammar(4, "0: 1 a; 1: 2; 1:; 2: b; 3: 0 2; 2: c 3")
		g.Start = start
		tells(t, g, "abc bc bc abc")
	}
}

// P11.1: a terminal of a nonterminal's number is none of it, nor is it nullable.
func TestNumbers(t *testing.T) {
	tells(t, grammar(2, "0: b; 1: c"), "b c")
	tells(t, grammar(2, "0: b c; 1:"), "b -")
	tells(t, grammar(3, "0: a b; 1: 0 c; 2: b 1; 0:"), "a ac b")
	tells(t, grammar(3, "0: c 2; 2: a; 1: c b; 2:"), "c c a")
}

// mayNot are grammars that may not be, by what is wrong with each; but for that the sets of most would not be empty.
func mayNot() map[string]api.Grammar {
	with := func(change func(g *api.Grammar)) api.Grammar {
		g := grammar(2, "0: 1; 1: 0 0; 1: a 1; 0: b")
		g.Terms = 3
		change(&g)
		return g
	}
	return map[string]api.Grammar{
		"the empty grammar":        {},
		"Terms below 0":            with(func(g *api.Grammar) { g.Terms = -1 }),
		"Terms below 0, alone":     {Terms: -1, Nons: 2, Prods: []api.Prod{{}}},
		"Terms far below 0, alone": {Terms: math.MinInt, Nons: 2},
		"Terms one more":           with(func(g *api.Grammar) { g.Terms = api.MostTerms + 1 }),
		"Terms far more":           with(func(g *api.Grammar) { g.Terms = math.MaxInt }),
		"Nons below 0":             with(func(g *api.Grammar) { g.Nons = -1 }),
		"Nons far below 0":         with(func(g *api.Grammar) { g.Nons = math.MinInt }),
		"Nons 0":                   with(func(g *api.Grammar) { g.Nons = 0 }),
		"Nons 0, no productions":   {Terms: 1},
		"Nons one more":            with(func(g *api.Grammar) { g.Nons = api.MostNons + 1 }),
		"Nons far more":            with(func(g *api.Grammar) { g.Nons = math.MaxInt }),
		"Start below 0":            with(func(g *api.Grammar) { g.Start = -1 }),
		"Start one more":           with(func(g *api.Grammar) { g.Start = 2 }),
		"productions one more":     {Nons: 2, Prods: make([]api.Prod, api.MostProds+1)},
		"Left below 0":             with(func(g *api.Grammar) { g.Prods[2].Left = -1 }),
		"Left one more":            with(func(g *api.Grammar) { g.Prods[2].Left = 2 }),
		"the last Left one more":   with(func(g *api.Grammar) { g.Prods[3].Left = 2 }),
		"symbols one more":         with(func(g *api.Grammar) { g.Prods[2].Right = make([]api.Sym, api.MostRight+1) }),
		"a terminal below 0":       with(func(g *api.Grammar) { g.Prods[2].Right[0].N = -1 }),
		"a terminal one more":      with(func(g *api.Grammar) { g.Prods[2].Right[0].N = 3 }),
		"a terminal of none":       with(func(g *api.Grammar) { g.Terms = 0 }),
		"a nonterminal below 0":    with(func(g *api.Grammar) { g.Prods[2].Right[1].N = -1 }),
		"a nonterminal one more":   with(func(g *api.Grammar) { g.Prods[2].Right[1].N = 2 }),
		"a nonterminal far below":  with(func(g *api.Grammar) { g.Prods[1].Right[1].N = math.MinInt }),
		"a nonterminal far more":   with(func(g *api.Grammar) { g.Prods[1].Right[0].N = math.MaxInt }),
	}
}

// P11.1: of a grammar that may not be nothing is told, that is nil.
func TestMayNotBe(t *testing.T) {
	for what, g := range mayNot() {
		if gram.Right(g) {
			t.Errorf("%s may be", what)
		}
		before := gram.Clone(g)
		if l := first.First(g); l != nil {
			t.Errorf("%s: First: %v", what, l)
		}
		if !gram.Same(g, before) {
			t.Errorf("%s is changed", what)
		}
	}
	tells(t, grammar(2, "0: 1; 1: 0 0; 1: a 1; 0: b"), "ab ab")
}

// R3, R4, R5: a change of the grammar changes nothing of what was told, and answers share nothing with each other.
func TestNothingIsKept(t *testing.T) {
	const text = "0: 1 b; 1: 2; 2:; 3: a 2; 2: c; 1: d 0"
	g := grammar(4, text)
	l, other := first.First(g), first.First(g)
	clear(other[:cap(other)])
	_ = append(other[:0], 9, 9)
	tells(t, grammar(4, "3: 3; 3: 2 2; 2: 0; 0: 1; 1: e; 1:"), "e e e e")
	for i := range g.Prods {
		clear(g.Prods[i].Right)
		g.Prods[i].Left = 3
	}
	g.Nons, g.Start = 9, 2
	if !slices.Equal(l, sets("bcd cd c a")) {
		t.Error(l)
	}
	tells(t, grammar(4, text), "bcd cd c a")
}
