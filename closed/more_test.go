package closed_test

import (
	"math/rand"
	"slices"
	"testing"

	"probate/api"
)

// P19.1: items that no word asks for may stand there, too, with all that follows from them, and not without.
func TestMore(t *testing.T) {
	for _, c := range []struct{ text, w, without, with string }{
		{"0: a", "a", "0.0.0; 0.1.0 0.0.1", ""}, // of it nothing follows: there is no token
		{"0: a", "a", "0.0.0; 0.1.0 0.1.1", ""},
		{"0: a", "aa", "0.0.0; 0.1.0 0.0.1;", "0.0.0; 0.1.0 0.0.1; 0.1.1"},
		{"0: a", "aa", "0.0.0; 0.1.0 0.0.0;", "0.0.0; 0.1.0 0.0.0; 0.1.0"},
		{"0: a", "ab", "0.0.0; 0.1.0 0.0.1;", ""},
		{"0: a; 1: b", "b", "0.0.0 1.0.0;", "0.0.0 1.0.0; 1.1.0"},
		{"0: a; 1: b", "b", "0.0.0; 1.0.0", ""},
		{"0: a; 1: b", "b", "0.0.0; 1.1.0", ""},
		{"0: a; 1: 0; 0: b", "a", "0.0.0 2.0.0 1.0.0; 0.1.0", "0.0.0 2.0.0 1.0.0; 0.1.0 1.1.0"},
		{"0: a; 1: 0; 0: b", "a", "0.0.0 2.0.0; 0.1.0 1.0.1", "0.0.0 2.0.0; 0.1.0 1.0.1 0.0.1 2.0.1"},
		{"0: a; 1: 0; 0: b", "a", "0.0.0 2.0.0; 0.1.0 1.0.0", "0.0.0 2.0.0; 0.1.0 1.0.0 0.0.1 2.0.1"},
		{"0: a; 1: 0; 0: b", "a", "0.0.0 2.0.0; 0.1.0 1.0.1 0.0.1", "0.0.0 2.0.0; 0.1.0 1.0.1 0.0.1 2.0.1"},
		{"0: 1 b; 1: a", "b", "0.0.0 1.0.0 1.1.0;", "0.0.0 1.0.0 1.1.0 0.1.0; 0.2.0"},
		{"0: 1 b; 1: a", "b", "0.0.0 1.0.0 1.1.0 0.1.0;", "0.0.0 1.0.0 1.1.0 0.1.0; 0.2.0"},
		{"0: 1 b; 1: a", "b", "0.0.0 1.0.0; 1.1.0", "0.0.0 1.0.0; 1.1.0 0.1.0"},
		{"0: 1 b; 1: a", "b", "0.0.0 1.0.0; 1.1.1", ""},
		{"0: 1 b; 1: a", "c", "0.0.0 1.0.0; 1.1.1 0.0.1", "0.0.0 1.0.0; 1.1.1 0.0.1 0.1.1 1.0.1"},
	} {
		g, w := of(c.text), letters(c.w)
		if c.with == "" {
			closes(t, g, w, setsOf(c.without))
			continue
		}
		says(t, g, w, setsOf(c.without), false)
		closes(t, g, w, setsOf(c.with))
	}
}

// P19.1: of each item that may stand there: with all that follows from it, sets are closed, and without any one of that they aren't.
func TestEachMore(t *testing.T) {
	closedWith, openWith := 0, 0
	for _, g := range some() {
		if len(g.Prods) > 3 {
			continue
		}
		for _, text := range []string{"", "a", "b", "ab", "aab", "aba"} {
			w := letters(text)
			sets := least(g, w)
			for at, set := range full(g, len(w)+1) {
				for _, it := range set {
					more := with(sets, at, it)
					all := grown(g, w, more)
					closes(t, g, w, all)
					if len(faults(g, w, more)) == 0 {
						closedWith++
						closes(t, g, w, more)
						continue
					}
					openWith++
					says(t, g, w, more, false)
					for place := range all {
						for _, follows := range all[place][len(more[place]):] {
							says(t, g, w, without(all, place, follows), false)
						}
					}
				}
			}
		}
	}
	if closedWith < 500 || openWith < 500 {
		t.Errorf("%d closed, %d open: too few to show anything", closedWith, openWith)
	}
}

// P19.1: all items that may stand there.
func TestFull(t *testing.T) {
	for _, g := range some() {
		for _, w := range []string{"", "a", "ba", "aab", "abcd"} {
			sets := full(g, len(w)+1)
			closes(t, g, letters(w), sets)
			closes(t, g, letters(w), sets[:len(w)/2+1])
		}
	}
	var prods []api.Prod // a grammar of all that there may be, and all items
	for range api.MostProds {
		prods = append(prods, api.Prod{Right: slices.Repeat([]api.Sym{{Non: true}}, api.MostRight)})
	}
	g, w := api.Grammar{Nons: 1, Prods: prods}, letters(as("a", api.MostWord))
	says(t, g, w, full(g, api.MostWord+1), true)
	says(t, g, w, without(full(g, api.MostWord+1), api.MostWord, item(api.MostProds-1, api.MostRight, api.MostWord)), false)
	says(t, g, w, without(full(g, api.MostWord+1), api.MostWord, item(0, 1, 0)), false)
}

// P19.1: items stand in any order, and some twice, or more often.
func TestAnyOrder(t *testing.T) {
	r := rand.New(rand.NewSource(191))
	for _, g := range some() {
		for _, text := range []string{"", "a", "b", "ab", "aab", "aba", "abcdefgh"} {
			w := letters(text)
			sets := least(g, w)
			for range 4 {
				for at := range sets {
					set := slices.Clone(sets[at])
					for range r.Intn(4) {
						if len(set) > 0 {
							set = append(set, set[r.Intn(len(set))])
						}
					}
					r.Shuffle(len(set), func(i, k int) { set[i], set[k] = set[k], set[i] })
					sets[at] = set
				}
				closes(t, g, w, sets)
				eachMissing(t, g, w, sets)
			}
		}
	}
	g, w := of("0: a 0; 0: b"), letters("ab")
	sets := least(g, w)
	for at := range sets {
		sets[at] = slices.Repeat(sets[at], 3000)
	}
	says(t, g, w, sets, true)
	says(t, g, w, without(sets, 2, item(0, 2, 0)), false)
	for at := range sets {
		slices.Reverse(sets[at])
	}
	says(t, g, w, sets, true)
	says(t, g, w, without(sets, 2, item(1, 1, 1)), false)
}
