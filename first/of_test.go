package first_test

import (
	"math"
	"slices"
	"strconv"
	"strings"
	"testing"

	"probate/api"
	"probate/first"
	"probate/gram"
)

// asks holds what is told of symbols, that it is told again, and that the arguments stay as they were (R3, R4).
func asks(t *testing.T, g api.Grammar, l []api.Sym, want uint32, all bool) {
	t.Helper()
	before, symbols := gram.Clone(g), slices.Clone(l)
	for range 2 {
		if got, is := first.Of(g, l); got != want || is != all {
			t.Errorf("Of(%v, %v): %b, %v, not %b, %v", g, l, got, is, want, all)
		}
		if !gram.Same(g, before) || !slices.Equal(l, symbols) {
			t.Errorf("Of changed %v and %v to %v and %v", before, symbols, g, l)
		}
	}
}

// begins holds what is told of symbols, as texts: of all of them nullable, a + stands behind the set.
func begins(t *testing.T, g api.Grammar, text, want string) {
	t.Helper()
	letters, all := strings.CutSuffix(want, "+")
	asks(t, g, symbols(text), set(letters), all)
}

// some has nullable nonterminals of a set that is empty (0), and of one that is not (1, and 2 through it), one of a set that is not nullable (3), one of which nothing comes (4), and one of which no word does (5).
func some() api.Grammar {
	return grammar(6, "0:; 1: a; 1:; 2: 1 b; 2: 0 1; 3: 2 c; 5: 0 d 4")
}

// P11.1: no symbols.
func TestOfNone(t *testing.T) {
	for _, g := range []api.Grammar{some(), grammar(1, ""), grammar(2, "0: a 1"), {Nons: 1}, {Nons: api.MostNons}} {
		asks(t, g, nil, 0, true)
		asks(t, g, []api.Sym{}, 0, true)
		asks(t, g, make([]api.Sym, 0, 9), 0, true)
	}
}

// P11.1: one terminal, from the lowest to the greatest, whether a production has it or none.
func TestOfTerminal(t *testing.T) {
	for n := range api.MostTerms {
		for terms := n + 1; terms <= api.MostTerms; terms++ {
			g := grammar(2, "0: 1")
			g.Terms = terms
			asks(t, g, []api.Sym{{N: n}}, 1<<n, false)
		}
	}
	begins(t, some(), "a", "a")
	begins(t, some(), "p", "p")
	begins(t, grammar(1, "0:"), "a", "a")
}

// P11.1: one nonterminal: its set, and whether it is nullable.
func TestOfNonterminal(t *testing.T) {
	tells(t, some(), "- a ab abc - d")
	for non, want := range []string{"-+", "a+", "ab+", "abc", "-", "d"} {
		begins(t, some(), strconv.Itoa(non), want)
	}
	g := grammar(api.MostNons, chain("", func(non int) int { return non })+"; 0: a")
	for non := range api.MostNons {
		begins(t, g, strconv.Itoa(non), map[bool]string{true: "a+", false: "-+"}[non == 0])
	}
}

// P11.1: nullable nonterminals ahead of a terminal, or of a nonterminal that is not nullable, or of both.
func TestOfBehindNullable(t *testing.T) {
	for text, want := range map[string]string{
		"0 d": "d", "1 d": "ad", "2 d": "abd", "0 0 d": "d", "1 0 d": "ad", "0 2 1 d": "abd", "1 a": "a",
		"0 3": "abc", "1 3": "abc", "0 4": "-", "1 4": "a", "2 4": "ab", "0 5": "d", "1 5": "ad", "2 1 5": "abd",
		"1 3 d": "abc", "1 5 e": "ad", "1 4 e": "a", "2 4 e 3": "ab", "1 d 2": "ad", "1 d 3": "ad", "0 d e": "d", "1 0 d 5 e": "ad",
		"0 1 2 0 1 2 p": "abp", "3 d": "abc", "4 d": "-", "5 e": "d", "5 5": "d", "4 4": "-", "3 5": "abc", "4 3": "-",
	} {
		begins(t, some(), text, want)
	}
}

// P11.1: nullable nonterminals alone.
func TestOfNullableAlone(t *testing.T) {
	for text, want := range map[string]string{
		"0 0": "-+", "0 1": "a+", "1 0": "a+", "1 1": "a+", "1 2": "ab+", "2 1": "ab+", "2 0": "ab+", "0 2": "ab+", "0 1 2 2 1 0": "ab+",
	} {
		begins(t, some(), text, want)
	}
	g := grammar(4, "0: a; 0:; 1: b; 1:; 2: c; 2:; 3: d 0; 3:")
	for text, want := range map[string]string{"0 1": "ab+", "1 2": "bc+", "3 2 1 0": "abcd+", "0 1 2 3": "abcd+", "2 0 2": "ac+"} {
		begins(t, g, text, want)
	}
}

// P11.1: what stands behind a terminal is in no set, nor is anything of it nullable.
func TestOfBehindTerminal(t *testing.T) {
	for text, want := range map[string]string{
		"a b": "a", "b a": "b", "d 0": "d", "d 1": "d", "d 2 3 5": "d", "d d": "d", "p o": "p", "e 0 0": "e", "c c c c c c c c c c d": "c",
	} {
		begins(t, some(), text, want)
	}
}

// P11.1: more symbols than a production may have.
func TestOfMany(t *testing.T) {
	for _, many := range []int{api.MostRight, api.MostRight + 1, api.MostRight + 2, 100, 70000} {
		begins(t, some(), strings.Repeat("0 ", many), "-+")
		begins(t, some(), strings.Repeat("0 ", many)+"2", "ab+")
		begins(t, some(), strings.Repeat("0 ", many)+"d", "d")
		begins(t, some(), strings.Repeat("1 ", many)+"5", "ad")
		begins(t, some(), strings.Repeat("d ", many), "d")
		begins(t, some(), "1 c "+strings.Repeat("d ", many), "ac")
		begins(t, some(), strings.Repeat("1 ", many)+"4 d", "a")
	}
	g := grammar(api.MostTerms, "")
	text, want := "", ""
	for n := range api.MostTerms {
		g.Prods = append(g.Prods, api.Prod{Left: n}, api.Prod{Left: n, Right: []api.Sym{{N: n}}})
		text += " " + strconv.Itoa(n)
		want += string(rune('a' + n))
		begins(t, g, text, want+"+")
	}
	asks(t, g, symbols(text), 0xffff, true)
}

// P11.1: symbols none of which is the grammar's, of each sort, at each place among others, behind which the set goes on, or ends.
func TestOfNoSymbol(t *testing.T) {
	for _, terms := range []int{0, 1, 2, 5, 6, 7, 15, 16} {
		g := api.Grammar{Terms: terms, Nons: 6, Prods: []api.Prod{{}, {Left: 1}, {Left: 2, Right: symbols("3 0")}}}
		for _, n := range []int{-1, -2, -64, math.MinInt, terms, terms + 1, terms + 64, math.MaxInt} {
			among(t, g, api.Sym{N: n})
		}
		for _, n := range []int{-1, -2, -64, math.MinInt, 6, 7, 70, math.MaxInt} {
			among(t, g, api.Sym{Non: true, N: n})
		}
	}
	for _, nons := range []int{1, 2, api.MostNons} {
		for _, terms := range []int{0, 1, 2, api.MostTerms} {
			g := api.Grammar{Terms: terms, Nons: nons, Prods: []api.Prod{{}}}
			among(t, g, api.Sym{Non: true, N: nons})
			among(t, g, api.Sym{N: terms})
			if terms > 0 {
				asks(t, g, []api.Sym{{Non: true}, {N: terms - 1}}, 1<<(terms-1), false)
			}
			asks(t, g, []api.Sym{{Non: true, N: nons - 1}}, 0, nons == 1)
		}
	}
}

// among holds that nothing is told of symbols among which one is none of a grammar's, whose 0 is nullable, and whose 1, 4 and 5 may be, or not.
func among(t *testing.T, g api.Grammar, s api.Sym) {
	t.Helper()
	ahead := []string{"", "0", "0 0", "0 0 0 0 0 0 0 0 0"}
	if g.Nons > 5 {
		ahead = append(ahead, "1", "1 0", "2", "0 5", "4 0 3 1")
	}
	if g.Terms > 0 {
		ahead = append(ahead, "a", "0 a", "a 0", "a a a a a a a a a")
	}
	for _, a := range ahead {
		for _, behind := range ahead {
			l := append(append(symbols(a), s), symbols(behind)...)
			asks(t, g, l, 0, false)
			asks(t, g, append(l, s), 0, false)
		}
	}
}

// P11.1: of a grammar that may not be nothing is told, of no symbols, too.
func TestOfMayNotBe(t *testing.T) {
	for what, g := range mayNot() {
		t.Run(what, func(t *testing.T) {
			for _, text := range []string{"", "a", "b", "p", "0", "1", "0 1", "1 a", "a 1", "0 0 0 a", "9 a"} {
				asks(t, g, symbols(text), 0, false)
			}
			asks(t, g, []api.Sym{{N: -1}}, 0, false)
			asks(t, g, []api.Sym{{Non: true, N: -1}}, 0, false)
		})
	}
	g := grammar(2, "0: 1; 1: 0 0; 1: a 1; 0: b")
	begins(t, g, "", "-+")
	begins(t, g, "1 a", "ab")
}

// P11.1, R5: what was asked of one grammar changes nothing of what is told of another.
func TestOfKeepsNothing(t *testing.T) {
	other := grammar(6, "0: a; 1: b; 2: c; 3:; 4: d; 4:; 5: e")
	for range 2 {
		begins(t, some(), "0 1 2 3", "abc")
		begins(t, other, "0 1 2 3", "a")
		begins(t, other, "3 4 5", "de")
		begins(t, some(), "3 4 5", "abc")
	}
}
