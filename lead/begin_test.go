package lead_test

import (
	"slices"
	"strings"
	"testing"

	"probate/api"
	"probate/lead"
	"probate/rank"
	"probate/tree"
)

// each holds several words' derivations of one grammar: of each a word of letters and, behind ":", what is told.
func each(t *testing.T, g api.Grammar, list ...string) {
	t.Helper()
	for _, one := range list {
		text, want, _ := strings.Cut(one, ":")
		begins(t, g, text, want)
	}
}

// P17.1: a word that comes itself, and no longer one begins with it.
func TestBeginWhole(t *testing.T) {
	each(t, of("0: a"), "a: 0")
	each(t, of("0: b; 0: a; 0: c"), "a: 1", "b: 0", "c: 2")
	each(t, of("0: a b c d e f g h"), "abcdefgh: 0")
	each(t, of("0: a 0; 0: b"), "b: 1", "ab: 0 1", "aaab: 0 0 0 1")
	each(t, of("0: a 0 b; 0: c"), "c: 1", "acb: 0 1", "aacbb: 0 0 1")
	each(t, of("0: 1 2 1; 1: d; 1: c; 2: b; 2: a"), "cac: 0 2 4 2", "dbd: 0 1 3 1", "cbd: 0 2 3 1")
	each(t, of("0: 1 1; 1: a; 1: a"), "aa: 0 1 1")
	each(t, from(2, of("0: a; 1: 0 b; 2: c 1 0; 0: d")), "cdba: 2 1 3 0")
}

// P17.1: a word that is only the beginning of one, which has one token more, or many.
func TestBeginOnly(t *testing.T) {
	each(t, of("0: a b c d e f g h"), "abcdefg: 0", "abcdef: 0", "ab: 0", "a: 0", ": 0")
	each(t, of("0: a 0; 0: b"), "a: 0 1", "aa: 0 0 1", "aaaa: 0 0 0 0 1")
	each(t, of("0: a 0 b; 0: c"), "a: 0 1", "ac: 0 1", "aac: 0 0 1", "aacb: 0 0 1", "aaaa: 0 0 0 0 1")
	each(t, of("0: 1 2 1; 1: d; 1: c; 2: b; 2: a"), "c: 0 2 3 1", "ca: 0 2 4 1", "d: 0 1 3 1", "db: 0 1 3 1", "cb: 0 2 3 1")
	each(t, of("0: a 1; 1: 2 2 2 2; 2: 3 3 3 3; 3: b b b b b b b b"), "a: 0 1 2 3 3 3 3 2 3 3 3 3 2 3 3 3 3 2 3 3 3 3", "ab: 0 1 2 3 3 3 3 2 3 3 3 3 2 3 3 3 3 2 3 3 3 3")
	const many = api.MostWord
	g := of("0: a 0 b; 0:")
	worked(t, g, letters(as("a", many)), lead.Begin, append(times(many, 0), 1))
	worked(t, g, letters(as("a", many-1)+"b"), lead.Begin, append(times(many-1, 0), 1))
	word, e := tree.Replay(g, append(times(many, 0), 1))
	if e != api.OK || len(word) != 2*many {
		t.Errorf("of %v come %d tokens, %v", g, len(word), e)
	}
}

// P17.1: a word that comes itself, and is also the beginning of a longer one: which of them is told is told by the productions alone.
func TestBeginBoth(t *testing.T) {
	each(t, of("0: a; 0: a b"), "a: 0", "ab: 1")
	each(t, of("0: a b; 0: a"), "a: 0", "ab: 0")
	each(t, of("0: a 1; 1:; 1: b"), "a: 0 1", "ab: 0 2")
	each(t, of("0: a 1; 1: b; 1:"), "a: 0 1", "ab: 0 1")
	each(t, of("0: a 0; 0:"), ": 1", "a: 0 1", "aaa: 0 0 0 1")
	each(t, of("0:; 0: a 0"), ": 0", "a: 1 0", "aaa: 1 1 1 0")
	each(t, of("0: a 0; 0: a"), ": 1", "a: 0 1", "aa: 0 0 1")
	each(t, of("0: a; 0: a 0"), ": 0", "a: 0", "aa: 1 0", "aaa: 1 1 0")
	each(t, of("0: 1 1; 1: a; 1:"), ": 0 1 1", "a: 0 1 1", "aa: 0 1 1")
	each(t, of("0: 1 1; 1:; 1: a"), ": 0 1 1", "a: 0 1 2", "aa: 0 2 2")
}

// P17.1: as long as the whole word isn't there, the least production by which only longer words come goes ahead of one by which the word itself comes.
func TestBeginLongerFirst(t *testing.T) {
	each(t, of("0: a b c; 0: a"), "a: 0", "ab: 0")
	each(t, of("0: a 1 1; 0: a; 1: c"), "a: 0 2 2")
	each(t, of("0: 1 c; 0: 1; 1: a"), "a: 0 2", "ac: 0 2")
	each(t, of("0: b 0; 0: 1; 0: b; 1: b a b"), "b: 0 2", "bb: 0 0 2", "ba: 1 3", "bab: 1 3", "bba: 0 1 3")
	each(t, of("0: 1 2; 0: 1; 1: a; 2: b 2; 2: c"), "a: 0 2 4", "ab: 0 2 3 4")
}

// P17.1: as long as the whole word isn't there, a lesser production of which only the word's first tokens come, and not the next one, is left out.
func TestBeginNotTheNext(t *testing.T) {
	each(t, of("0: a b c; 0: a b d"), "a: 0", "ab: 0", "abc: 0", "abd: 1")
	each(t, of("0: 1 c; 0: 1 d; 1: a b"), "ab: 0 2", "abc: 0 2", "abd: 1 2")
	each(t, of("0: 1 2; 1: a; 1: a b; 2: c; 2: b d"), "a: 0 1 3", "ab: 0 1 4", "abd: 0 1 4", "abc: 0 2 3", "ac: 0 1 3", "abb: 0 2 4", "abbd: 0 2 4")
	each(t, of("0: a; 0: a 0; 0: b"), "a: 0", "ab: 1 2", "aa: 1 0", "aab: 1 1 2")
	each(t, of("0: a 0; 0:; 0: a 0 c"), "aac: 0 2 1", "aacc: 2 2 1", "aa: 0 0 1")
	each(t, of("0: 1 2 3; 1:; 1: a; 2:; 2: a; 3:; 3: a; 3: b"), ": 0 1 3 5", "a: 0 1 3 6", "aa: 0 1 4 6", "aaa: 0 2 4 6", "b: 0 1 3 7", "ab: 0 1 4 7", "aab: 0 2 4 7")
	each(t, of("0: 1 d; 0: 2 e; 1: a 1; 1: b; 2: a 2; 2: b"), "aab: 0 2 2 3", "aabe: 1 4 4 5", "aabd: 0 2 2 3")
}

// P17.1: from where the whole word is there, each nonterminal's production is that of its fact, also where a lesser one would do; up to there it is the least one.
func TestBeginByFacts(t *testing.T) {
	each(t, of("0: a 1; 1: 2; 1: b; 2: c"), ": 0 2", "a: 0 2", "ab: 0 2", "ac: 0 1 3")
	each(t, of("0: 1; 0: a; 1: b"), ": 1", "a: 1", "b: 0 2")
	each(t, of("0: 1; 0: a; 1: a"), ": 1", "a: 0 2")
	each(t, of("0: a 1; 1: b; 1: 2; 2:"), ": 0 1", "a: 0 1", "ab: 0 1") // not the rank without terminals
	each(t, of("0: a 1; 1: 2 2; 1: 3; 2: 3; 2: 3 3; 3: 4; 3: 4 4; 4: b; 4:"), "a: 0 2 5 7", "ab: 0 1 3 5 7 3 5 7", ": 0 2 5 7")
	each(t, of("0: a 1 b 1; 1: 2; 1:; 2:"), ": 0 2 2", "a: 0 2 2", "ab: 0 1 3 2")
	each(t, of("0: 1 a; 1: 2; 1:; 2:"), ": 0 2", "a: 0 1 3")
	each(t, of("0: 1 a 1; 1: 2; 1: ; 1: c; 2: b; 2:"), ": 0 2 2", "a: 0 1 5 2", "ba: 0 1 4 2", "b: 0 1 4 2", "ca: 0 3 2", "ab: 0 1 5 1 4")
	each(t, of("0: 1 1 1; 1: a 2; 2: 3; 2: b; 3: c"), ": 0 1 3 1 3 1 3", "a: 0 1 3 1 3 1 3", "ac: 0 1 2 4 1 3 1 3", "aca: 0 1 2 4 1 3 1 3", "acac: 0 1 2 4 1 2 4 1 3")
	g := of("0: a 1; 1: 2; 2: 3 3; 2: 4; 3: 4; 3: 4 b; 4: c; 4: d")
	begins(t, g, "a", "0 1 3 6")
	for non, f := range rank.Productive(g) {
		if want := numbers("0 1 3 4 6")[non]; f.Prod != want {
			t.Errorf("the fact of %d is %v, not of production %d", non, f, want)
		}
	}
}

// P17.1: the whole word is there within a production, behind its first symbol, a later one, and its last one.
func TestBeginWithin(t *testing.T) {
	each(t, of("0: a 1 1; 1: 2; 1: b; 2: b"), "a: 0 2 2", "ab: 0 1 3 2", "abb: 0 1 3 1 3")
	each(t, of("0: a b 1; 1: 2; 1: b; 2: b"), "a: 0 2", "ab: 0 2", "abb: 0 1 3")
	each(t, of("0: a 1 c 1; 1: 2; 1: b; 2: b"), "a: 0 2 2", "ab: 0 1 3 2", "abc: 0 1 3 2", "abcb: 0 1 3 1 3")
	each(t, of("0: 1 1; 1: a 2 c; 2: 3; 2: b; 3: b"), "a: 0 1 3 1 3", "ab: 0 1 2 4 1 3", "abc: 0 1 2 4 1 3", "abca: 0 1 2 4 1 3", "abcab: 0 1 2 4 1 2 4")
	each(t, of("0: 1 2; 1: a 3; 2: 3; 2: 3 3; 3: 4; 3:; 4: b; 4:"), "a: 0 1 5 2 5", "ab: 0 1 4 6 2 5")
}

// P17.1: the whole word is there just behind a nonterminal, and what is left stands in productions ahead.
func TestBeginBehindNonterminal(t *testing.T) {
	each(t, of("0: 1 2; 1: a; 2: 1; 2: b"), "a: 0 1 3", "aa: 0 1 2 1", "ab: 0 1 3")
	each(t, of("0: 1 2 2; 1: a; 2: 1; 2: b"), "a: 0 1 3 3", "aa: 0 1 2 1 3", "aaa: 0 1 2 1 2 1")
	each(t, of("0: 1 3; 1: 2 3; 2: a 3; 3: 4; 3: b; 4: b"), "a: 0 1 2 4 4 4", "ab: 0 1 2 3 5 4 4", "abb: 0 1 2 3 5 3 5 4", "abbb: 0 1 2 3 5 3 5 3 5")
	each(t, of("0: 1 2; 1: a 1; 1:; 2: 3; 2: c; 3: c"), "a: 0 1 2 4", "aa: 0 1 1 2 4", "aac: 0 1 1 2 3 5", ": 0 2 4")
}

// P17.1, R6: of the empty word, be it nil or an empty list, the whole word is there ahead of the first production.
func TestBeginEmpty(t *testing.T) {
	for _, c := range [][2]string{
		{"0:", "0"},
		{"0: a", "0"},
		{"0: 1; 0: a; 1: b", "1"},
		{"0: 1; 0: 1 1; 1: 2; 1: b; 2:", "0 3"},
		{"0: a; 0:", "0"},
		{"0: 1 1; 1: 2; 1: 2 2; 2: a 2; 2: b", "0 1 4 1 4"},
		{"0: a 0; 0: b 0; 0: c", "2"},
	} {
		for _, w := range [][]int{nil, {}, make([]int, 0, 3), letters("ab")[2:]} {
			worked(t, of(c[0]), w, lead.Begin, numbers(c[1]))
		}
	}
}

// P17.1: words of each number of tokens up to MostWord, and each beginning of them.
func TestBeginEachNumber(t *testing.T) {
	for _, c := range []struct{ text, word string }{
		{"0: a 0; 0:", as("a", api.MostWord)},
		{"0: a 0 b 0; 0:", as("aababb", 4)},
		{"0: 1 1 1; 1: a b c d e f g h", as("abcdefgh", 3)},
		{"0: 1 0; 0: 1; 1: a 1 b; 1: 2; 2: c", as("aacbbcacb", 3)[:api.MostWord]},
		{"0: 1 2 0; 0: 2; 1: a; 1: b 1 a; 2:; 2: c", as("bbaaacbaa", 3)[:api.MostWord]},
	} {
		g := of(c.text)
		for many := range api.MostWord + 1 {
			w := letters(c.word)[:many]
			own, e := byParts(g, w, lead.Begin)
			if e != api.OK {
				t.Fatalf("of %s, %v: worked out %v", c.text, w, e)
			}
			if searched := beginning(g, w); !slices.Equal(own, searched) {
				t.Fatalf("of %s, %v: worked out %v, but searched %v", c.text, w, own, searched)
			}
			holds(t, g, w, lead.Begin, own, e)
		}
	}
}
