package closed_test

import (
	"slices"
	"testing"

	"probate/api"
	"probate/closed"
)

// tells holds what Alone tells.
func tells(t *testing.T, g api.Grammar, w []int, sets [][]api.Item, l []int, want bool) {
	t.Helper()
	if is := told(t, g, w, sets, l, closed.Alone); is != want {
		t.Fatalf("Alone(%v, %v, %v, %v): %v", g, w, sets, l, is)
	}
}

// alone holds that a derivation is alone in sets.
func alone(t *testing.T, g api.Grammar, w []int, sets [][]api.Item, l []int) {
	t.Helper()
	if why := doubts(g, w, sets, l); len(why) > 0 {
		t.Fatalf("of %v, %v, %v, %v: worked out is %v", g, w, sets, l, why)
	}
	tells(t, g, w, sets, l, true)
}

// doubted holds that a derivation isn't alone in sets, for just these reasons.
func doubted(t *testing.T, g api.Grammar, w []int, sets [][]api.Item, l []int, want ...string) {
	t.Helper()
	if why := doubts(g, w, sets, l); !slices.Equal(why, want) {
		t.Fatalf("of %v, %v, %v, %v: worked out is %v, not %v", g, w, sets, l, why, want)
	}
	tells(t, g, w, sets, l, false)
}

// only is a derivation that is the only one of its word.
type only struct {
	g api.Grammar
	w string
	l string
}

// onlyOnes are some.
func onlyOnes() []only {
	return []only{
		{of("0: a"), "a", "0"}, {of("0:"), "", "0"}, {of("0: a; 0: b; 0:"), "b", "1"}, {of("0: a; 0: b; 0:"), "", "2"}, {of("0: a b c d e f g h"), "abcdefgh", "0"},
		{of("0: a 0 b; 0:"), "aabb", "0 0 1"}, {of("0: a 0; 0: b"), "aaab", "0 0 0 1"}, {of("0: 1 2; 1: a 1; 1: b; 2: c; 2:"), "aabc", "0 1 1 2 3"}, {of("0: 1 2; 1: a 1; 1: b; 2: c; 2:"), "b", "0 2 4"},
		{of("0: 1 1; 1: a; 1:"), "aa", "0 1 1"}, {of("0: 1 1; 1: a; 1:"), "", "0 2 2"}, {of("0: 1 1 1; 1:"), "", "0 1 1 1"}, {of("0: a 1 b 1 c; 1:; 1: d"), "abdc", "0 1 2"},
		{from(2, of("1: a; 0: b 1; 2: 0 1 0")), "baaba", "2 1 0 0 1 0"}, {of("0: 1; 1: 2; 2: 3 a; 3:"), "a", "0 1 2 3"}, {of("0: 0 a; 0: b"), "baa", "0 0 1"}, {of("0: a; 1: b; 1: 2; 2: 1"), "a", "0"},
	}
}

// P19.1: the only derivations of some words, in the least sets, and in some that have more.
func TestAlone(t *testing.T) {
	for _, c := range onlyOnes() {
		w, l := letters(c.w), numbers(c.l)
		alone(t, c.g, w, least(c.g, w), l)
		longer := least(c.g, append(slices.Clone(w), 15)) // of any word that begins so
		alone(t, c.g, w, longer[:len(w)+1], l)
		twice := least(c.g, w)
		for at := range twice {
			twice[at] = append(twice[at], twice[at]...)
			slices.Reverse(twice[at])
		}
		alone(t, c.g, w, twice, l)
	}
	g := of("0: a; 1: b c") // items of which nothing is said
	alone(t, g, letters("a"), setsOf("0.0.0; 0.1.0 1.0.0 1.1.0 1.2.0 1.1.1 1.2.1 0.0.1"), numbers("0"))
}

// P19.1: sets that aren't closed, though all else is fulfilled.
func TestAloneNotClosed(t *testing.T) {
	for _, c := range onlyOnes() {
		w, l := letters(c.w), numbers(c.l)
		sets := least(c.g, w)
		for at, set := range sets {
			for _, it := range set {
				doubted(t, c.g, w, without(sets, at, it), l, "closed")
			}
			for _, it := range []api.Item{item(-1, 0, 0), item(len(c.g.Prods), 0, 0), item(0, -1, 0), item(0, len(c.g.Prods[0].Right)+1, 0), item(0, 0, -1), item(0, 0, at+1)} {
				doubted(t, c.g, w, with(sets, at, it), l, "closed")
			}
		}
		doubted(t, c.g, w, make([][]api.Item, len(w)+1), l, "closed")
	}
	// all that isn't closed is something of which nothing is asked
	doubted(t, of("0: a; 1: b; 2: 1"), letters("a"), setsOf("0.0.0 2.0.0; 0.1.0"), numbers("0"), "closed")
	alone(t, of("0: a; 1: b; 2: 1"), letters("a"), setsOf("0.0.0 2.0.0 1.0.0; 0.1.0"), numbers("0"))
}

// P19.1: other numbers of sets than one for each place of the word, and its end.
func TestAlonePlaces(t *testing.T) {
	for _, c := range onlyOnes() {
		w, l := letters(c.w), numbers(c.l)
		sets := least(c.g, w)
		for many := 1; many < len(sets); many++ {
			doubted(t, c.g, w, sets[:many], l, "places")
		}
		doubted(t, c.g, w, nil, l, "closed", "places")
		doubted(t, c.g, w, append(copied(sets), nil), l, "closed", "places")
	}
	// what isn't there could show nothing else
	doubted(t, of("0: a"), letters("a"), setsOf("0.0.0"), numbers("0"), "places")
	doubted(t, of("0: a b"), letters("ab"), setsOf("0.0.0; 0.1.0"), numbers("0"), "places")
	doubted(t, of("0: a 1; 1: b; 1: b"), letters("ab"), setsOf("0.0.0; 0.1.0 1.0.1 2.0.1"), numbers("0 1"), "places")
}

// P19.1: what is no derivation, of each sort.
func TestAloneNoDerivation(t *testing.T) {
	for _, c := range onlyOnes() {
		w, l := letters(c.w), numbers(c.l)
		sets := least(c.g, w)
		none := func(l []int) {
			t.Helper()
			doubted(t, c.g, w, sets, l, "derivation")
		}
		none(nil)
		none([]int{})
		for at := range l {
			for _, wrong := range []int{-1, -2, lowest, len(c.g.Prods), len(c.g.Prods) + 1, api.MostProds, 1 << 32, highest} {
				changed := slices.Clone(l)
				changed[at] = wrong
				none(changed)
				none(slices.Insert(slices.Clone(l), at, wrong))
			}
			for other, p := range c.g.Prods {
				if p.Left != c.g.Prods[l[at]].Left {
					changed := slices.Clone(l)
					changed[at] = other
					none(changed)
				}
			}
			none(l[:at])
			none(slices.Concat(l, l[at:]))
		}
		for prod := range c.g.Prods {
			none(append(slices.Clone(l), prod))
		}
		none(append(slices.Clone(l), -1))
		none(append(slices.Clone(l), highest))
	}
}

// P19.1: derivations of as many productions as there may be, and of more.
func TestAloneManySteps(t *testing.T) {
	g := of("0: a 0; 0: b")
	for _, many := range []int{2, 25, 26, api.MostSteps - 1, api.MostSteps, api.MostSteps + 1, api.MostSteps + 2} {
		w := append(letters(as("a", many-1)), 1)
		l := append(make([]int, many-1), 1)
		sets := [][]api.Item{{item(0, 0, 0), item(1, 0, 0)}}
		for at := 1; at < many; at++ {
			sets = append(sets, []api.Item{item(0, 1, at-1), item(0, 0, at), item(1, 0, at)})
		}
		sets = append(sets, []api.Item{item(1, 1, many-1)})
		for from := range many - 1 {
			sets[many] = append(sets[many], item(0, 2, from))
		}
		closes(t, g, w, sets)
		if many > api.MostSteps {
			doubted(t, g, w, sets, l, "derivation")
		} else {
			alone(t, g, w, sets, l)
			open(t, g, w, without(sets, many, item(0, 2, 0)), "whole")
		}
	}
}

// P19.1: a derivation of another word, shorter, longer, or of another token, be it the first, a middle or the last one.
func TestAloneOtherWord(t *testing.T) {
	g := of("0: a 0; 0: b 0; 0: c 0; 0: d")
	for _, w := range []string{"d", "abcd", "abcabcd", "aad", "abc", "abca", "abcde", "p", "abcb", "", "dd", "abcdd"} {
		sets := least(g, letters(w))
		for _, other := range []string{"d", "ad", "abd", "abcd", "bbcd", "acbd", "aacd", "abbd", "abcad", "abcbcd", "abcabcd", "abcabbd", "abcabcad", "aaad"} {
			var l []int
			for _, tok := range letters(other) {
				l = append(l, tok)
			}
			if other == w {
				alone(t, g, letters(w), sets, l)
			} else {
				why := doubts(g, letters(w), sets, l)
				if !slices.Equal(why, []string{"word"}) {
					t.Fatalf("of %s, and %s: %v", w, other, why)
				}
				tells(t, g, letters(w), sets, l, false)
			}
		}
	}
	// words that don't come, whose sets tell nothing of the derivation
	for _, w := range []string{"b", "", "aa", "ba", "ab", "aaa"} {
		g := of("0: a")
		doubted(t, g, letters(w), least(g, letters(w)), numbers("0"), "word")
		g = of("0: a; 1: b")
		doubted(t, g, letters(w), least(g, letters(w)), numbers("0"), "word")
	}
	for _, w := range [][]int{{-1}, {16}, {256}, {1 << 32}, {lowest}, {highest}} { // tokens that are none
		doubted(t, of("0: a"), w, least(of("0: a"), w), numbers("0"), "word")
	}
	doubted(t, of("0:"), letters("a"), setsOf("0.0.0;"), numbers("0"), "word")
	doubted(t, of("0: a b"), letters("ac"), setsOf("0.0.0; 0.1.0;"), numbers("0"), "word")
	doubted(t, of("0: a b"), letters("ab"), setsOf("0.0.0; 0.1.0; 0.2.0"), nil, "derivation")
}

// P19.1: words that have several derivations: none of them is alone, and each is, once the others can't be.
func TestAloneSeveral(t *testing.T) {
	for _, c := range []struct {
		text, w string
		all     []string
	}{
		{"0: a; 0: a", "a", []string{"0", "1"}}, {"0:; 0:", "", []string{"0", "1"}}, {"0: 1; 0: a; 1: a", "a", []string{"0 2", "1"}},
		{"0: 1 1; 1: a; 1:", "a", []string{"0 1 2", "0 2 1"}}, {"0: 1 2; 1: a; 1: a a; 2: a; 2: a a", "aaa", []string{"0 1 4", "0 2 3"}},
		{"0: a 0 b; 0: c; 0: c", "acb", []string{"0 1", "0 2"}}, {"0: 1 2; 0: a b; 1: a; 2: b", "ab", []string{"0 2 3", "1"}},
		{"0: b 0 0; 0: a; 0:", "ba", []string{"0 1 2", "0 2 1"}}, {"0: 1 c; 1: a 2; 1: a b; 2: b", "abc", []string{"0 1 3", "0 2"}},
	} {
		g, w := of(c.text), letters(c.w)
		if all := derivations(g, w); len(all) != len(c.all) {
			t.Fatalf("of %s, %s come %v", c.text, c.w, all)
		}
		for _, l := range c.all {
			why := doubts(g, w, least(g, w), numbers(l))
			if len(why) == 0 || slices.Contains(why, "closed") || slices.Contains(why, "derivation") || slices.Contains(why, "word") {
				t.Fatalf("of %s, %s, %s: %v", c.text, c.w, l, why)
			}
			tells(t, g, w, least(g, w), numbers(l), false)
		}
	}
}
