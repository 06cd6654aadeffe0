package closed_test

import (
	"math/rand"
	"slices"
	"testing"

	"probate/api"
	"probate/gram"
)

// odd is a number, small mostly, and beside what may be often.
func odd(r *rand.Rand, most int) int {
	l := []int{-1, -2, lowest, lowest + 1, highest, highest - 1, 1 << 31, -1 << 31, 1 << 32, 255, 256, api.MostTerms, api.MostNons, api.MostProds, api.MostWord, api.MostSteps}
	switch r.Intn(12) {
	case 0:
		return l[r.Intn(len(l))]
	case 1:
		return most + r.Intn(3) - 1
	}
	return r.Intn(max(most, 1))
}

// oddGrammar is one that may be, or that may not.
func oddGrammar(r *rand.Rand) api.Grammar {
	g := api.Grammar{Terms: 1 + r.Intn(3), Nons: 1 + r.Intn(3)}
	if g.Start = r.Intn(g.Nons); r.Intn(8) == 0 {
		g.Terms, g.Nons, g.Start = odd(r, 5), odd(r, 5), odd(r, 3)
	}
	wild := r.Intn(6) == 0
	for range r.Intn(6) {
		p := api.Prod{Left: r.Intn(max(g.Nons%100, 1))}
		for range r.Intn(4) {
			p.Right = append(p.Right, api.Sym{Non: r.Intn(2) == 0, N: r.Intn(max(1, min(g.Terms, g.Nons)%100))})
		}
		if wild {
			p.Left = odd(r, 3)
			p.Right = append(p.Right, api.Sym{Non: r.Intn(2) == 0, N: odd(r, 3)})
		}
		g.Prods = append(g.Prods, p)
	}
	return g
}

// R1, R3, R4: whatever is handed in, neither of the two panics, and both tell what is worked out.
func TestWhatever(t *testing.T) {
	r := rand.New(rand.NewSource(195))
	counts := map[string]int{}
	for range 30000 {
		g := oddGrammar(r)
		var w, l []int
		for range r.Intn(5) {
			w = append(w, odd(r, 2))
		}
		for range r.Intn(6) {
			l = append(l, odd(r, len(g.Prods)))
		}
		var sets [][]api.Item
		for range max(0, len(w)+2-r.Intn(4)) {
			sets = append(sets, nil)
		}
		if r.Intn(2) == 0 {
			sets = grown(g, w, sets)
		}
		for range r.Intn(4) {
			if at := r.Intn(6); at < len(sets) {
				sets[at] = append(sets[at], item(odd(r, len(g.Prods)), odd(r, 4), odd(r, at+1)))
			}
		}
		if ders := some(); r.Intn(3) == 0 { // one of the only ones, somewhat changed
			c := onlyOnes()[r.Intn(len(onlyOnes()))]
			g, w, l = c.g, letters(c.w), numbers(c.l)
			if sets = least(g, w); r.Intn(3) == 0 {
				g = ders[r.Intn(len(ders))]
			}
			if r.Intn(3) == 0 && len(w) > 0 {
				w[r.Intn(len(w))] = odd(r, 3)
			}
			if r.Intn(3) == 0 {
				l[r.Intn(len(l))] = odd(r, len(g.Prods))
			}
			if at := r.Intn(len(sets)); r.Intn(3) == 0 && len(sets[at]) > 0 {
				sets[at][r.Intn(len(sets[at]))] = item(odd(r, len(g.Prods)), odd(r, 4), odd(r, at+1))
			}
		}
		why := faults(g, w, sets)
		says(t, g, w, sets, len(why) == 0)
		doubt := doubts(g, w, sets, l)
		tells(t, g, w, sets, l, len(doubt) == 0)
		for _, one := range append(why, doubt...) {
			counts[one]++
		}
		if len(why) == 0 {
			counts["no fault"]++
		}
		if len(doubt) == 0 {
			counts["no doubt"]++
		}
	}
	for _, one := range []string{"no fault", "no doubt", "grammar", "none", "many", "Prod", "Dot", "From", "start", "begin", "token", "whole", "closed", "places", "derivation", "word"} {
		if counts[one] < 100 {
			t.Errorf("%s: %v: too few to show anything", one, counts)
		}
	}
}

// R1: both end soon, however many there are of all that is handed in.
func TestMany(t *testing.T) {
	g, w := of("0: a 0 0; 0: b; 0:"), letters(as("ab", api.MostWord/2))
	sets := full(g, len(w)+1)
	for at := range sets {
		sets[at] = slices.Repeat(sets[at], 40)
	}
	says(t, g, w, sets, true)
	tells(t, g, w, sets, []int{2}, false)
	says(t, g, w, without(sets, 24, item(0, 3, 3)), false)

	g, w = of("0: a a a a a a a 0; 0: b"), append(make([]int, 7*(api.MostSteps-1)), 1)
	l := append(make([]int, api.MostSteps-1), 1)
	sets = make([][]api.Item, len(w)+1)
	for at := range w {
		if at%7 == 0 {
			sets[at] = []api.Item{item(0, 0, at), item(1, 0, at)}
		}
		if at > 0 {
			dot := (at-1)%7 + 1
			sets[at] = append(sets[at], item(0, dot, at-dot))
		}
	}
	sets[len(w)] = []api.Item{item(1, 1, len(w)-1)}
	for from := 0; from < len(w)-1; from += 7 {
		sets[len(w)] = append(sets[len(w)], item(0, 8, from))
	}
	says(t, g, w, sets, true)
	tells(t, g, w, sets, l, true)
	says(t, g, w, without(sets, len(w), item(0, 8, 7)), false)
	tells(t, g, w, without(sets, len(w), item(0, 8, 7)), l, false)
}

// R5: nothing is kept: what is told hangs on what is handed in alone, and what becomes of that changes nothing.
func TestNothingIsKept(t *testing.T) {
	g, w, l := of("0: a 1; 1: b; 1: c"), letters("ab"), numbers("0 1")
	sets := least(g, w)
	for range 3 {
		closes(t, g, w, sets)
		alone(t, g, w, sets, l)
		gone := sets[2][0]
		sets[2][0] = item(0, 0, 0)
		says(t, g, w, sets, false)
		tells(t, g, w, sets, l, false)
		sets[2][0] = gone
		w[1] = 2
		open(t, g, w, sets, "token")
		w[1] = 1
		l[1] = 2
		tells(t, g, w, sets, l, false)
		l[1] = 1
		g.Start = 1
		says(t, g, w, sets, false)
		tells(t, g, w, sets, l, false)
		g.Start = 0
	}
	old := gram.Clone(g)
	closes(t, g, w, sets)
	if !gram.Same(g, old) {
		t.Errorf("it became %v", g)
	}
}
