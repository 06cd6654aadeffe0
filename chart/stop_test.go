package chart_test

import (
	"slices"
	"testing"

	"probate/api"
	"probate/chart"
)

// bitsOf are the bits of letters, and of the end, which is "$".
func bitsOf(text string) uint32 {
	bits := uint32(0)
	for _, one := range text {
		if one == '$' {
			bits |= end
		} else {
			bits |= 1 << (one - 'a')
		}
	}
	return bits
}

// stops holds that a word of letters stops at a place, and what is next there.
func stops(t *testing.T, g api.Grammar, w string, at int, bits string) {
	t.Helper()
	if a, b, is := chart.Stop(g, letters(w)); a != at || b != bitsOf(bits) || !is {
		t.Errorf("Stop(%v, %s): %d, %b, %v, not %d, %b", g, w, a, b, is, at, bitsOf(bits))
	}
	works(t, g, letters(w))
}

// goesOn holds that words of letters stop nowhere.
func goesOn(t *testing.T, g api.Grammar, words ...string) {
	t.Helper()
	for _, w := range words {
		if at, bits, is := chart.Stop(g, letters(w)); at != 0 || bits != 0 || is {
			t.Errorf("Stop(%v, %s): %d, %b, %v", g, w, at, bits, is)
		}
		works(t, g, letters(w))
	}
}

// P18.2: a word that comes stops nowhere.
func TestStopNowhere(t *testing.T) {
	goesOn(t, of("0: a"), "a")
	goesOn(t, of("0:"), "")
	goesOn(t, of("0: a 0 b; 0:"), "", "ab", "aabb", as("a", 12)+as("b", 12))
	goesOn(t, of("0: a 0; 0: b"), "b", "ab", as("a", api.MostWord-1)+"b")
	goesOn(t, of("0: a 0; 0:"), "", "a", "aa", as("a", api.MostWord))
	goesOn(t, of("0: 1 2 1; 1: a; 1:; 2: b; 2:"), "", "a", "b", "aa", "ab", "ba", "aba")
	goesOn(t, of("0: 1 1; 1: a; 1: a a"), "aa", "aaa", "aaaa")
	goesOn(t, of("0: a 0 b 0; 0:"), "", "ab", "abab", "aabb", "aababbab")
	goesOn(t, of("0: 1; 1: 2; 2: 3; 3: a b c d e f g h"), "abcdefgh")
	goesOn(t, from(1, of("0: a; 1: b 0; 1: 0 1")), "ba", "aba", "aaba")
	goesOn(t, tokens(api.MostTerms), "a", "b", "h", "o", "p")
}

// P18.2: a word that is only the beginning of one that comes stops at its end, since the bit End isn't there.
func TestStopAtEnd(t *testing.T) {
	stops(t, of("0: a"), "", 0, "a")
	stops(t, of("0: a b c"), "a", 1, "b")
	stops(t, of("0: a b c"), "ab", 2, "c")
	stops(t, of("0: a 0 b; 0:"), "a", 1, "ab")
	stops(t, of("0: a 0 b; 0:"), "aa", 2, "ab")
	stops(t, of("0: a 0 b; 0:"), "aab", 3, "b")
	stops(t, of("0: a 0; 0: b"), as("a", api.MostWord), api.MostWord, "ab")
	stops(t, of("0: 1 1; 1: a; 1: a c"), "a", 1, "ac")
	stops(t, of("0: 1 2; 1: a 1; 1:; 2: b; 2: p"), "aaa", 3, "abp")
	stops(t, of("0: 1 2; 1: a; 1: a b c; 2: b d"), "ab", 2, "cd")
	stops(t, from(1, of("0: a; 1: b 0")), "b", 1, "a")
	for tok := range api.MostTerms {
		stops(t, of("0: a "+string(rune('a'+tok))), "a", 1, string(rune('a'+tok)))
	}
}

// P18.2: a token may not stand there, at the first, a middle and the last place.
func TestStopAtToken(t *testing.T) {
	stops(t, of("0: a"), "b", 0, "a")
	stops(t, of("0: a"), "aa", 1, "$")
	stops(t, of("0:"), "a", 0, "$")
	stops(t, of("0: a; 0:"), "b", 0, "a$")
	stops(t, of("0: a; 0:"), "ab", 1, "$")
	stops(t, of("0: a b c d e"), "bbcde", 0, "a")
	stops(t, of("0: a b c d e"), "abbde", 2, "c")
	stops(t, of("0: a b c d e"), "abcdd", 4, "e")
	stops(t, of("0: a b c d e"), "abcdef", 5, "$")
	stops(t, of("0: a 0 b; 0:"), "b", 0, "a$")
	stops(t, of("0: a 0 b; 0:"), "aba", 2, "$")
	stops(t, of("0: a 0 b; 0:"), "aabab", 3, "b")
	stops(t, of("0: a 0 b; 0:"), "aabbb", 4, "$")
	stops(t, of("0: 1 c; 1: a; 1: b; 1:"), "aac", 1, "c")
	stops(t, of("0: 1 c; 1: a; 1: b; 1:"), "dac", 0, "abc")
	stops(t, of("0: 1 2; 1: a 1; 1:; 2: b 2; 2:"), "aba", 2, "b$")
	stops(t, of("0: 1 2; 1: a 1; 1:; 2: b 2; 2:"), "aac", 2, "ab$")
	for tok := range api.MostTerms { // any but one
		g := tokens(api.MostTerms)
		g.Prods = slices.Delete(g.Prods, tok, tok+1)
		all := "abcdefghijklmnop"
		stops(t, g, all[tok:tok+1], 0, all[:tok]+all[tok+1:])
	}
}

// P18.2: of several tokens that may not stand where they stand the first one is told.
func TestStopAtFirst(t *testing.T) {
	stops(t, of("0: a b c"), "bcb", 0, "a")
	stops(t, of("0: a b c"), "acb", 1, "b")
	stops(t, of("0: a b c"), "accc", 1, "b")
	stops(t, of("0: a b c"), "abab", 2, "c")
	stops(t, of("0: a b c"), "ppp", 0, "a")
	stops(t, of("0: a 0; 0: b"), "acacb", 1, "ab")
	stops(t, of("0: a 0; 0: b"), "abab", 2, "$")
	stops(t, of("0: a 0 b; 0:"), "abba", 2, "$")
	stops(t, of("0: a 0; 0:"), "a"+as("b", api.MostWord-1), 1, "a$")
	stops(t, of("0: 1 1; 1: a; 1: a b"), "abbabb", 2, "a")
	for one := range 6 {
		for two := one; two < 6; two++ {
			w := []byte("abcdef")
			w[one], w[two] = 'p', 'p'
			stops(t, of("0: a b c d e f"), string(w), one, "abcdef"[one:one+1])
		}
	}
}

// P18.2, R6: the empty word, of a grammar of which it comes, and of one of which it doesn't.
func TestStopOfNothing(t *testing.T) {
	for _, c := range []struct{ text, bits string }{
		{"0:", ""}, {"0: a; 0:", ""}, {"0: 1; 1:", ""}, {"0: 1 1; 1: a; 1:", ""}, {"0: 1 2; 1: 2 2; 2:", ""}, {"0: a 0; 0: 1; 1:", ""},
		{"0: a", "a"}, {"0: a; 0: p", "ap"}, {"0: 1; 1: b", "b"}, {"0: 1 2; 1: a; 1:; 2: b", "ab"}, {"0: a 1; 1:", "a"}, {"0: 1 1; 1: b 1; 1: c", "bc"},
	} {
		for _, w := range [][]int{nil, {}, make([]int, 0, 2)} {
			at, bits, is := chart.Stop(of(c.text), w)
			if at != 0 || bits != bitsOf(c.bits) || is != (c.bits != "") {
				t.Errorf("of %s: %d, %b, %v", c.text, at, bits, is)
			}
			works(t, of(c.text), w)
		}
	}
	g := api.Grammar{Nons: 1, Prods: []api.Prod{{}}} // no terminals at all
	if at, bits, is := chart.Stop(g, nil); at != 0 || bits != 0 || is {
		t.Errorf("Stop(%v): %d, %b, %v", g, at, bits, is)
	}
}

// P18.2: words of just MostWord tokens: one that comes, one that is only a beginning, and ones that stop at each place.
func TestStopMostWord(t *testing.T) {
	g := of("0: a 0; 0: b; 0: c d 0")
	goesOn(t, g, as("a", api.MostWord-1)+"b", as("cd", api.MostWord/2-1)+"ab")
	stops(t, g, as("a", api.MostWord), api.MostWord, "abc")
	stops(t, g, as("a", api.MostWord-1)+"c", api.MostWord, "d")
	stops(t, g, as("cd", api.MostWord/2), api.MostWord, "abc")
	for at := range api.MostWord {
		w := []byte(as("a", api.MostWord))
		w[at] = 'p'
		stops(t, g, string(w), at, "abc")
		w[at] = 'd'
		stops(t, g, string(w), at, "abc")
		if at < api.MostWord-1 {
			w[at] = 'b'
			stops(t, g, string(w), at+1, "$")
			w[at] = 'c'
			stops(t, g, string(w), at+1, "d")
		}
	}
	goesOn(t, of("0: 1 2 1; 1: a b c d e f g h; 2: i j k l m n o p"), "abcdefghijklmnopabcdefgh")
	stops(t, of("0: 1 2 1; 1: a b c d e f g h; 2: i j k l m n o p"), "abcdefghijklmnopabcdefgp", api.MostWord-1, "h")
}
