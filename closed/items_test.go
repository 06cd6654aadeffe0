package closed_test

import (
	"math"
	"slices"
	"testing"

	"probate/api"
)

const lowest, highest = math.MinInt, math.MaxInt

// places are the first, a middle and the last one of so many.
func places(many int) []int {
	return slices.Compact([]int{0, many / 2, many - 1})
}

// put are sets with an item at a place of a set.
func put(sets [][]api.Item, at, i int, it api.Item) [][]api.Item {
	c := copied(sets)
	c[at] = slices.Insert(c[at], i, it)
	return c
}

// place is a word's place, and the sets into which items are put: those of all items that may be, and the least ones.
type place struct {
	g         api.Grammar
	w         []int
	at        int
	all, some [][]api.Item
}

func placeOf(g api.Grammar, w []int, at int) place {
	return place{g, w, at, full(g, len(w)+1), least(g, w)}
}

// mayNotStand holds that with an item at a place's set, be it the first, a middle or the last one there, sets aren't closed, for one reason, and that with what may be in its place they are.
func (p place) mayNotStand(t *testing.T, it, instead api.Item, why string) {
	t.Helper()
	for _, i := range places(len(p.all[p.at]) + 1) {
		open(t, p.g, p.w, put(p.all, p.at, i, it), why)
		closes(t, p.g, p.w, put(p.all, p.at, i, instead))
		open(t, p.g, p.w, put(p.all, p.at, i, it)[:p.at+1], why)
	}
	for _, i := range places(len(p.some[p.at]) + 1) {
		open(t, p.g, p.w, put(p.some, p.at, i, it), why)
		closes(t, p.g, p.w, grown(p.g, p.w, put(p.some, p.at, i, instead)))
	}
}

// overAll does something for grammars with productions of each size, and each of their places.
func overAll(do func(p place)) {
	for _, text := range []string{"0: a", "0:", "0: a 1 b; 1: c; 1:", "0: 1 1 1 1 1 1 1 1; 1: a; 1:; 0: b c"} {
		g := of(text)
		for many := range 4 {
			for _, at := range places(many + 1) {
				do(placeOf(g, letters(as("a", many)), at))
			}
		}
	}
	do(placeOf(of("0: a; 0: b"), letters(as("a", api.MostWord)), api.MostWord))
	do(placeOf(of("0: a; 0: b"), letters(as("a", api.MostWord+1)), api.MostWord/2))
}

// P19.1: Prod is a production.
func TestProd(t *testing.T) {
	overAll(func(p place) {
		many := len(p.g.Prods)
		for _, prod := range []int{-1, -2, -many, lowest, lowest + 1, -1 << 31, many, many + 1, api.MostProds, 255, 256, 1 << 31, 1 << 32, 1 << 60, highest} {
			for _, from := range []int{0, p.at} {
				p.mayNotStand(t, item(prod, 0, from), item(many-1, 0, from), "Prod")
			}
		}
		p.mayNotStand(t, item(many, 1, 0), item(0, 0, 0), "Prod")
	})
	g := of(as("0: a;", api.MostProds))
	for _, prod := range []int{-1, lowest, api.MostProds, api.MostProds + 1, highest} {
		placeOf(g, letters("ab"), 1).mayNotStand(t, item(prod, 0, 0), item(api.MostProds-1, 0, 0), "Prod")
	}
	for _, g := range []api.Grammar{grammar(1, ""), grammar(api.MostNons, "")} { // no number is that of a production
		closes(t, g, letters("a"), setsOf(";"))
		for _, prod := range []int{lowest, -1, 0, 1, highest} {
			open(t, g, letters("a"), [][]api.Item{{item(prod, 0, 0)}, nil}, "Prod")
			open(t, g, letters("a"), [][]api.Item{nil, {item(prod, 0, 0)}}, "Prod")
			open(t, g, letters("a"), [][]api.Item{nil, {item(prod, 0, 1)}}, "Prod")
		}
	}
}

// P19.1: Dot is from 0 to how many symbols the production has, whatever others have.
func TestDot(t *testing.T) {
	overAll(func(p place) {
		for prod, of := range p.g.Prods {
			many := len(of.Right)
			for _, dot := range []int{-1, -2, lowest, lowest + 1, -1 << 31, many + 1, many + 2, api.MostRight + 1, 255, 256, 1 << 31, 1 << 32, 1 << 60, highest} {
				p.mayNotStand(t, item(prod, dot, 0), item(prod, many, 0), "Dot")
			}
			p.mayNotStand(t, item(prod, -1, p.at), item(prod, 0, p.at), "Dot")
			p.mayNotStand(t, item(prod, many+1, p.at), item(prod, many, p.at), "Dot")
		}
	})
	for many := range api.MostRight + 1 {
		g := of("0: 1; 1:" + as(" a", many) + "; 1: a b c d e f g h; 1:")
		for at := range 3 {
			p := placeOf(g, letters("aa"), at)
			p.mayNotStand(t, item(1, many+1, 0), item(1, many, 0), "Dot")
			p.mayNotStand(t, item(1, -1, 0), item(1, 0, 0), "Dot")
		}
	}
}

// P19.1: From is from 0 to the place in whose set the item stands, be there places behind or not.
func TestFromOfItems(t *testing.T) {
	overAll(func(p place) {
		for prod, of := range p.g.Prods {
			for _, from := range []int{-1, -2, lowest, lowest + 1, -1 << 31, p.at + 1, p.at + 2, len(p.w) + 1, len(p.w) + 2, 1 << 31, 1 << 32, 1 << 60, highest} {
				p.mayNotStand(t, item(prod, 0, from), item(prod, 0, p.at), "From")
				p.mayNotStand(t, item(prod, len(of.Right), from), item(prod, len(of.Right), p.at), "From")
			}
			p.mayNotStand(t, item(prod, 0, -1), item(prod, 0, 0), "From")
		}
	})
	for many := range api.MostWord + 1 { // at each place
		g, w := of("0: a"), letters(as("b", many))
		for at := range many + 1 {
			open(t, g, w, with(least(g, w), at, item(0, 0, at+1)), "From")
			open(t, g, w, with(least(g, w), at, item(0, 1, at+1)), "From")
			closes(t, g, w, with(least(g, w), at, item(0, 0, at)))
			closes(t, g, w, with(least(g, w), at, item(0, 1, at)))
		}
	}
}

// P19.1: items of which several parts may not be, and several such items.
func TestSeveralWrong(t *testing.T) {
	g, w := of("0: a 0; 0: b"), letters("aa")
	for _, prod := range []int{lowest, -1, 2, highest} {
		for _, dot := range []int{lowest, -1, 0, 1, 3, highest} {
			for _, from := range []int{lowest, -1, 0, 3, highest} {
				for at := range 3 {
					open(t, g, w, put(least(g, w), at, 0, item(prod, dot, from)), "Prod")
					open(t, g, w, put(full(g, 3), at, 3, item(prod, dot, from)), "Prod")
				}
			}
		}
	}
	sets := put(put(put(least(g, w), 0, 0, item(0, 3, 0)), 1, 2, item(1, 0, 2)), 2, 0, item(-1, 0, 0))
	open(t, g, w, sets, "Dot", "From", "Prod")
	open(t, g, w, sets[:2], "Dot", "From")
	open(t, g, w, sets[:1], "Dot")
}
