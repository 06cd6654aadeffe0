package follow_test

import (
	"math"
	"slices"
	"strconv"
	"strings"
	"testing"

	"probate/api"
	"probate/follow"
	"probate/gram"
)

// symbols are those of a text: numbers are nonterminals, and letters, from a on, terminals.
func symbols(text string) []api.Sym {
	var l []api.Sym
	for _, s := range strings.Fields(text) {
		if s[0] >= 'a' {
			l = append(l, api.Sym{N: int(s[0] - 'a')})
		} else {
			l = append(l, api.Sym{Non: true, N: number(s)})
		}
	}
	return l
}

// grammar is one of so many nonterminals, whose Start is 0, and of productions parted by ";".
func grammar(nons int, text string) api.Grammar {
	g := api.Grammar{Terms: api.MostTerms, Nons: nons}
	for _, line := range strings.Split(text, ";") {
		if left, right, ok := strings.Cut(line, ":"); ok {
			g.Prods = append(g.Prods, api.Prod{Left: number(left), Right: symbols(right)})
		}
	}
	return g
}

func number(text string) int {
	n, err := strconv.Atoi(strings.TrimSpace(text))
	if err != nil {
		panic(err)
	}
	return n
}

// set is that of a text's letters; $ is the end, and - the empty one.
func set(text string) uint32 {
	n := uint32(0)
	for _, c := range text {
		switch c {
		case '$':
			n += 65536
		case '-':
		default:
			n += 1 << (c - 'a')
		}
	}
	return n
}

// sets are those of a text, parted by spaces.
func sets(text string) []uint32 {
	var l []uint32
	for _, s := range strings.Fields(text) {
		l = append(l, set(s))
	}
	return l
}

// told holds the sets of a grammar, that they are told again when what was told is changed, and that the grammar stays as it was (R3, R4).
func told(t *testing.T, g api.Grammar, want []uint32) {
	t.Helper()
	before := gram.Clone(g)
	for range 3 {
		l := follow.Follow(g)
		if l == nil || !slices.Equal(l, want) {
			t.Errorf("Follow(%v): %b, not %b", g, l, want)
			return
		}
		for i := range l {
			l[i] = math.MaxUint32
		}
		_ = append(l, 77)
		if !gram.Same(g, before) {
			t.Errorf("Follow changed %v to %v", before, g)
			return
		}
	}
}

// tells holds the sets of a grammar, as texts, whatever the order of its productions.
func tells(t *testing.T, g api.Grammar, want string) {
	t.Helper()
	told(t, g, sets(want))
	slices.Reverse(g.Prods)
	told(t, g, sets(want))
}

// P12.1: the chapter's example, set by set.
func TestExample(t *testing.T) {
	g := api.Grammar{Terms: 2, Nons: 2, Prods: []api.Prod{
		{Left: 0, Right: []api.Sym{{Non: true, N: 1}, {N: 1}}},
		{Left: 1, Right: []api.Sym{{N: 0}}},
	}}
	l := follow.Follow(g)
	if len(l) != 2 || l[0] != 65536 || l[1] != 2 {
		t.Errorf("Follow: %v", l)
	}
	tells(t, gram.Clone(g), "$ b")
	if g.Terms = api.MostTerms; !gram.Same(g, grammar(2, "0: 1 b; 1: a")) {
		t.Error("a grammar isn't what its text says")
	}
}

// P12.1: End is 16, the bit behind those of all terminals.
func TestEnd(t *testing.T) {
	const end = follow.End // a constant: nothing may change it
	if end != 16 {
		t.Errorf("End: %d", end)
	}
	if set("$") != 1<<end || set("p") != 1<<(end-1) {
		t.Error("a set isn't what its text says")
	}
}

// P12.1: the end is in Start's set, whichever nonterminal Start is, and in a grammar of no productions, too; and it is in no other there.
func TestStart(t *testing.T) {
	for nons := 1; nons <= api.MostNons; nons++ {
		for start := range nons {
			g := api.Grammar{Terms: nons % 17, Nons: nons, Start: start}
			want := make([]uint32, nons)
			want[start] = 65536
			told(t, g, want)
			for non := range nons { // nothing of these stands behind a nonterminal
				g.Prods = append(g.Prods, api.Prod{Left: non}, api.Prod{Left: non, Right: make([]api.Sym, min(g.Terms, non%3))})
			}
			told(t, g, want)
		}
	}
	for start, want := range []string{"b$ ab$ b$ -", "b ab$ b -", "b$ ab$ b$ -", "b$ ab$ b$ $"} {
		g := grammar(4, "0: 1; 1: 2 b; 0: 1 a 2; 2: 0; 3: c 0")
		g.Start = start
		tells(t, g, want)
	}
}

// P12.1: the end comes to those at the end of what has it, and to no other.
func TestWhereNoEndComes(t *testing.T) {
	tells(t, grammar(2, "0: 1 a"), "$ a")
	tells(t, grammar(2, "0: a 1"), "$ $")
	tells(t, grammar(3, "0: 1 2"), "$ - $")
	tells(t, grammar(3, "0: 1 2; 2: c"), "$ c $")
	tells(t, grammar(3, "0: 1 2; 2:"), "$ $ $")
	tells(t, grammar(3, "0: 1 a; 1: 2"), "$ a a")
	tells(t, grammar(3, "0: a 1; 1: 2"), "$ $ $")
	tells(t, grammar(3, "0: 0 a; 1: 2 1; 2: b"), "a$ - b")
	tells(t, grammar(3, "1: 0; 2: 1; 0: a"), "$ - -")
	tells(t, grammar(3, "1: 0 b; 2: 1 2; 0: a"), "b$ a -")
}

// P12.1: a terminal that stands right behind a nonterminal is in its set, and what stands behind that terminal is not.
func TestTerminalBehind(t *testing.T) {
	tells(t, grammar(1, "0: 0 a"), "a$")
	tells(t, grammar(1, "0: 0 p"), "p$")
	tells(t, grammar(2, "0: 1 a b"), "$ a")
	tells(t, grammar(2, "0: 1 a b c; 1: d"), "$ a")
	tells(t, grammar(2, "0: a 1 b; 1: d"), "$ b")
	tells(t, grammar(2, "0: a b 1 c d e f g"), "$ c")
	tells(t, grammar(2, "0: 1 a; 0: 1 b; 0: c 1 d"), "$ abd")
	tells(t, grammar(2, "0: 1 a; 0: 1 a; 1: 1 a"), "$ a")
	tells(t, grammar(3, "0: 1 a 2; 2: b; 1: c"), "$ a $")
	tells(t, grammar(3, "0: 1 a 2; 2: b; 2:; 1: c"), "$ a $")
	tells(t, grammar(3, "0: 1 a 2 b; 2:"), "$ a b")
	tells(t, grammar(3, "0: 1 a 2 b 1 c; 2: d; 1: e"), "$ ac b")
	for n := range api.MostTerms {
		for terms := n + 1; terms <= api.MostTerms; terms++ {
			g := api.Grammar{Terms: terms, Nons: 2, Prods: []api.Prod{{Right: []api.Sym{{Non: true, N: 1}, {N: n}}}}}
			told(t, g, []uint32{65536, 1 << n})
		}
	}
}

// P12.1: a terminal behind nullable nonterminals, one and several, is in the set, be they nullable by themselves, or through others.
func TestTerminalBehindNullable(t *testing.T) {
	tells(t, grammar(3, "0: 1 2 a; 2:"), "$ a a")
	tells(t, grammar(3, "0: 1 2 a; 2:; 2: b"), "$ ab a")
	tells(t, grammar(3, "0: 1 2 2 a; 2:"), "$ a a")
	tells(t, grammar(3, "0: 1 2 2 a; 2:; 2: b"), "$ ab ab")
	tells(t, grammar(4, "0: 1 2 3 a; 2:; 3:"), "$ a a a")
	tells(t, grammar(4, "0: 1 2 3 a; 2:; 3:; 2: b; 3: c"), "$ abc ac a")
	tells(t, grammar(4, "0: 1 3 2 a; 2:; 3:; 2: b; 3: c"), "$ abc a ab")
	tells(t, grammar(4, "0: 1 2 a b; 2: 3 3; 3:"), "$ a a a")
	tells(t, grammar(4, "0: 1 2 a; 2: 3 3; 3: c; 3:"), "$ ac a ac")
	tells(t, grammar(8, "0: 1 2 3 4 5 6 7 a; 2:; 3:; 4:; 5:; 6:; 7:"), "$ a a a a a a a")
	tells(t, grammar(8, "0: 1 2 3 4 5 6 7 a; 2: b; 3: c; 4: d; 5: e; 6: f; 7: g; 2:; 3:; 4:; 5:; 6:; 7:"), "$ abcdefg acdefg adefg aefg afg ag a")
}

// P12.1: a terminal behind a nonterminal that is not nullable is not in the set, nor behind a terminal.
func TestTerminalBehindNotNullable(t *testing.T) {
	tells(t, grammar(3, "0: 1 2 a; 2: b"), "$ b a")
	tells(t, grammar(3, "0: 1 2 a"), "$ - a")
	tells(t, grammar(3, "0: 1 2 a; 2: 2"), "$ - a")
	tells(t, grammar(3, "0: 1 2 a; 2: b 2"), "$ b a")
	tells(t, grammar(4, "0: 1 2 3 a; 2:; 3: b"), "$ b b a")
	tells(t, grammar(4, "0: 1 3 2 a; 2:; 3: b"), "$ b a a")
	tells(t, grammar(4, "0: 1 3 2 a; 2:; 2: c; 3: b"), "$ b a ac")
	tells(t, grammar(3, "0: 1 2 b a; 2:"), "$ b b")
	tells(t, grammar(3, "0: 1 b 2 a; 2:; 2: c"), "$ b a")
	for ends := range 6 {
		text, want := "0: 7", "$"
		for i := range 6 { // of the symbols behind 7, all up to one are nullable
			text += " " + strconv.Itoa(i+1)
		}
		text += " g"
		for i := range 6 {
			text += ";" + strconv.Itoa(i+1) + ": " + "abcdef"[i:i+1]
			if i != ends {
				text += ";" + strconv.Itoa(i+1) + ":"
			}
			if i < ends {
				want += " " + "abcdef"[i+1:ends+1]
			} else {
				want += " " + "abcdefg"[i+1:]
			}
		}
		tells(t, grammar(8, text), want+" "+"abcdef"[:ends+1])
	}
}

// P12.1: what a nonterminal that stands behind begins with is in the set, be it nullable or not.
func TestNonterminalBehind(t *testing.T) {
	tells(t, grammar(3, "0: 1 2; 2: a b; 2: c"), "$ ac $")
	tells(t, grammar(3, "0: 1 2; 2: a b; 2: c; 2:"), "$ ac$ $")
	tells(t, grammar(3, "0: 1 2 d; 2: a b; 2: c"), "$ ac d")
	tells(t, grammar(3, "0: 1 2 d; 2: a b; 2: c; 2:"), "$ acd d")
	tells(t, grammar(4, "0: 1 2; 2: 3 a; 3: b"), "$ b $ a")
	tells(t, grammar(4, "0: 1 2; 2: 3 a; 3: b; 3:"), "$ ab $ a")
	tells(t, grammar(4, "0: 1 2; 2: 3 3; 3: b; 3:"), "$ b$ $ b$")
	tells(t, grammar(4, "0: 1 2 3; 2: a; 3: b"), "$ a b $")
	tells(t, grammar(4, "0: 1 2 3; 2: a; 2:; 3: b"), "$ ab b $")
	tells(t, grammar(4, "0: 1 2 3; 2: a; 2:; 3: b; 3:"), "$ ab$ b$ $")
	tells(t, grammar(4, "0: 1 2 3; 2: a; 3: b; 3:"), "$ a b$ $")
	tells(t, grammar(2, "0: 1 0; 0: a; 1: b"), "$ ab")
	tells(t, grammar(2, "0: 1 0; 0: a"), "$ a")
	tells(t, grammar(2, "0: 0 1; 1: b"), "b$ b$")
}

// P12.1: all of the set of a production's nonterminal is in the set of one behind which nothing stands.
func TestNothingBehind(t *testing.T) {
	tells(t, grammar(2, "0: 1"), "$ $")
	tells(t, grammar(2, "0: a b c 1"), "$ $")
	tells(t, grammar(2, "0: 0 a; 0: 0 b; 0: 1"), "ab$ ab$")
	tells(t, grammar(3, "0: 1 a; 0: 1 b; 1: c 2"), "$ ab ab")
	tells(t, grammar(3, "0: 1 a; 0: 1 b; 1: c 2; 0: 2"), "$ ab ab$")
	tells(t, grammar(3, "0: 1 a; 0: 2 b; 1: c 2; 0: 2"), "$ a ab$")
	tells(t, grammar(3, "0: a 1; 1: b 2; 2: c 1"), "$ $ $")
	tells(t, grammar(4, "0: 1 a; 0: 2 b; 1: 3; 2: 3"), "$ a b ab")
	tells(t, grammar(4, "0: 1 a; 0: 2 b; 1: 3; 2: 3; 0: 1; 3: 3 c"), "$ a$ b abc$")
}

// P12.1: all of that set is in the set of one behind which all that stands is nullable, and none of it, where one symbol is not.
func TestNullableBehind(t *testing.T) {
	tells(t, grammar(4, "0: 1 a; 1: 2 3; 3:"), "$ a a a")
	tells(t, grammar(4, "0: 1 a; 1: 2 3; 3: b; 3:"), "$ a ab a")
	tells(t, grammar(4, "0: 1 a; 1: 2 3; 3: b"), "$ a b a")
	tells(t, grammar(4, "0: 1 a; 1: 2 3"), "$ a - a")
	tells(t, grammar(4, "0: 1 a; 1: 2 3 3; 3:"), "$ a a a")
	tells(t, grammar(4, "0: 1 a; 1: 2 3 3; 3:; 3: b"), "$ a ab ab")
	tells(t, grammar(4, "0: 1 a; 1: 2 3 b; 3:"), "$ a b b")
	tells(t, grammar(4, "0: 1 a; 1: 2 b 3; 3:"), "$ a b a")
	tells(t, grammar(5, "0: 1 a; 1: 2 3 4; 3:; 4:"), "$ a a a a")
	tells(t, grammar(5, "0: 1 a; 1: 2 3 4; 3:; 4: b"), "$ a b b a")
	tells(t, grammar(5, "0: 1 a; 1: 2 3 4; 3: b; 4:"), "$ a b a a")
	tells(t, grammar(5, "0: 1 a; 1: 2 3 4; 3: 4 4; 4:; 4: b"), "$ a ab ab ab")
	tells(t, grammar(5, "0: 1 a; 1: 2 3 4; 3: 4 4; 4: 3; 4: b"), "$ a b ab ab")
	for not := range 8 {
		text, set := "0: 0 g; 0: 8 1 2 3 4 5 6 7", "abcdefg$"
		for i := range 7 {
			text += ";" + strconv.Itoa(i+1) + ": " + "abcdefg"[i:i+1]
			if i+1 != not {
				text += ";" + strconv.Itoa(i+1) + ":"
			}
		}
		if not > 0 {
			set = "abcdefg"[:not]
		}
		want := "g$"
		for i := range 7 {
			switch n := i + 1; {
			case n == 7:
				want += " g$"
			case n < not:
				want += " " + "abcdefg"[n:not]
			default:
				want += " " + "abcdefg$"[n:]
			}
		}
		tells(t, grammar(9, text), want+" "+set)
	}
}

// P12.1: one nonterminal at several places of one production, next to itself too: each place puts its part in.
func TestSeveralPlaces(t *testing.T) {
	tells(t, grammar(2, "0: 1 1"), "$ $")
	tells(t, grammar(2, "0: 1 1; 1: a"), "$ a$")
	tells(t, grammar(2, "0: 1 1 a; 1: b"), "$ ab")
	tells(t, grammar(2, "0: 1 1 a"), "$ a")
	tells(t, grammar(2, "0: 1 a 1 b 1"), "$ ab$")
	tells(t, grammar(2, "0: 1 a 1 b 1 c; 1: d"), "$ abc")
	tells(t, grammar(2, "0: 1 a 1 b 1 c 1 d"), "$ abcd")
	tells(t, grammar(2, "0: 1 1 1 1 1 1 1 1; 1: a"), "$ a$")
	tells(t, grammar(2, "0: 1 1 1 1 1 1 1 b; 1: a; 1:"), "$ ab")
	tells(t, grammar(1, "0: 0 0"), "$")
	tells(t, grammar(1, "0: 0 0; 0: a"), "a$")
	tells(t, grammar(1, "0: 0 a 0 b; 0: c"), "ab$")
	tells(t, grammar(1, "0: a 0 0 b; 0: c"), "abc$")
	tells(t, grammar(3, "0: 1 2 1 a 2; 1: b; 2: c"), "$ ac b$")
	tells(t, grammar(3, "0: 1 2 1 a 2; 1: b; 2: c; 2:"), "$ abc b$")
	tells(t, grammar(3, "0: 1 2 2 1; 2: c; 2:; 1: d"), "$ cd$ cd")
	tells(t, grammar(3, "0: 2 1 2 1; 2:; 1:; 2: a"), "$ a$ a$")
}
