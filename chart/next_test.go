package chart_test

import (
	"math"
	"math/rand"
	"slices"
	"testing"

	"probate/api"
	"probate/chart"
	"probate/gram"
	"probate/sound"
)

const end = 1 << chart.End

// froms are places, among them such that no item of a word can have.
var froms = []int{0, 1, 2, api.MostWord, api.MostWord + 1, 1000, 1 << 32, math.MaxInt, -1, -2, -1 << 32, math.MinInt}

// tokens is a grammar with a production of each terminal alone, by its number.
func tokens(many int) api.Grammar {
	g := api.Grammar{Terms: many, Nons: 1}
	for tok := range many {
		g.Prods = append(g.Prods, api.Prod{Right: []api.Sym{{N: tok}}})
	}
	return g
}

// P18.1: each bit of a terminal each way round, up to the highest one that may be, with the bit End, and without.
func TestNextEachBit(t *testing.T) {
	for many := 1; many <= api.MostTerms; many++ {
		g := tokens(many)
		var all []api.Item
		for tok := range many {
			all = append(all, item(tok, 0, 0))
		}
		next(t, g, all, 1<<many-1)
		next(t, g, append(slices.Clone(all), item(0, 1, 0)), 1<<many-1|end)
		for tok := range many {
			next(t, g, []api.Item{item(tok, 0, 0)}, 1<<tok)
			next(t, g, []api.Item{item(tok, 0, 0), item(tok, 0, 0)}, 1<<tok) // twice the same
			next(t, g, []api.Item{item(tok, 1, 0)}, end)
			next(t, g, []api.Item{item(tok, 1, 0), item(tok, 0, 3)}, 1<<tok|end)
			next(t, g, slices.Delete(slices.Clone(all), tok, tok+1), (1<<many-1)&^(1<<tok))
		}
	}
	g := tokens(api.MostTerms)
	for set := 0; set < 1<<api.MostTerms; set += 37 { // any of them
		var l []api.Item
		for tok := range api.MostTerms {
			if set>>tok&1 == 1 {
				l = append(l, item(tok, 0, set%25))
			}
		}
		next(t, g, l, uint32(set))
		next(t, g, append(l, item(set%api.MostTerms, 1, 0)), uint32(set)|end)
	}
}

// P18.1: the symbol at Dot is told, and none ahead of it or behind.
func TestNextAtDot(t *testing.T) {
	g := of("0: a b c d e f g h; 0: i j k l m n o p; 0:; 0: p 0 a")
	for dot := range api.MostRight {
		next(t, g, []api.Item{item(0, dot, 0)}, 1<<dot)
		next(t, g, []api.Item{item(1, dot, 0)}, 1<<(dot+8))
		next(t, g, []api.Item{item(0, dot, 0), item(1, api.MostRight-1-dot, 1)}, 1<<dot|1<<(15-dot))
	}
	next(t, g, []api.Item{item(0, api.MostRight, 0)}, end)
	next(t, g, []api.Item{item(2, 0, 0)}, end)
	next(t, g, []api.Item{item(3, 0, 0), item(3, 1, 0)}, 1<<15)
	next(t, g, []api.Item{item(3, 1, 0), item(3, 2, 0)}, 1)
	next(t, g, []api.Item{item(3, 3, 0)}, end)
}

// P18.1: the bit End, if there is a whole item of Start, From 0; not for one with another From, nor for one that isn't whole, nor for one of another nonterminal.
func TestNextEnd(t *testing.T) {
	for start := range 2 {
		g := from(start, of("0: a 1; 1: b; 1:; 0: 1; 0:; 1: 0 0"))
		whole := []api.Item{item(0, 2, 0), item(1, 1, 0), item(2, 0, 0), item(3, 1, 0), item(4, 0, 0), item(5, 2, 0)}
		for _, it := range whole {
			want := uint32(0)
			if g.Prods[it.Prod].Left == start {
				want = end
			}
			next(t, g, []api.Item{it}, want)
			for _, k := range froms {
				if it.From = k; k != 0 {
					next(t, g, []api.Item{it}, 0)
				}
			}
		}
		all := uint32(0)
		for prod, p := range g.Prods {
			for dot := range p.Right {
				for _, k := range froms {
					bits := chart.Next(g, []api.Item{item(prod, dot, k)})
					if bits&end != 0 {
						t.Errorf("of Start %d: %v tells the end", start, item(prod, dot, k))
					}
					all |= bits
				}
			}
		}
		if all != 1|2 {
			t.Errorf("of Start %d: %b", start, all)
		}
		next(t, g, whole, end)
		next(t, g, append(whole, item(0, 0, 7), item(1, 0, 7)), end|1|2)
	}
	for start := range api.MostNons { // of each Start, and of none that isn't
		g := from(start, grammar(api.MostNons, ring()))
		for prod := range g.Prods {
			want := uint32(0)
			if prod == start {
				want = end
			}
			next(t, g, []api.Item{item(prod, 2, 0)}, want)
			next(t, g, []api.Item{item(prod, 0, 0)}, 1)
		}
	}
}

// P18.1: a terminal is told whatever the item's From is.
func TestNextAnyFrom(t *testing.T) {
	g := of("0: a 1; 1: b c; 1: p")
	for _, k := range froms {
		next(t, g, []api.Item{item(0, 0, k)}, 1)
		next(t, g, []api.Item{item(1, 0, k)}, 2)
		next(t, g, []api.Item{item(1, 1, k)}, 4)
		next(t, g, []api.Item{item(2, 0, k)}, 1<<15)
		next(t, g, []api.Item{item(2, 0, k), item(0, 2, 0), item(0, 2, k)}, 1<<15|end)
	}
}

// P18.1: items whose Prod is no production, or whose Dot isn't from 0 to how many symbols it has, tell nothing, alone and beside others that do.
func TestNextOfNoItem(t *testing.T) {
	for _, g := range []api.Grammar{of("0: a b; 0: c; 0:"), of(as("0: a b;", api.MostProds-2) + "0: c; 0:"), of("0: a b;" + as("0: a 0;", 7) + "0: c; 0:")} {
		many := len(g.Prods)
		var wrong []api.Item
		for _, prod := range []int{-1, -2, math.MinInt32, math.MinInt, -many, many, many + 1, api.MostProds, 255, 256, 1 << 32, math.MaxInt} {
			for _, dot := range []int{0, 1, 2, -1, math.MaxInt, math.MinInt} {
				wrong = append(wrong, item(prod, dot, 0))
			}
		}
		for prod, p := range g.Prods {
			size := len(p.Right)
			for _, dot := range []int{-1, -2, -size - 1, math.MinInt32, math.MinInt, size + 1, size + 2, api.MostRight + 1, 255, 256, 1 << 32, math.MaxInt} {
				wrong = append(wrong, item(prod, dot, 0), item(prod, dot, -1))
			}
		}
		for _, it := range wrong {
			next(t, g, []api.Item{it}, 0)
			next(t, g, []api.Item{it, item(0, 1, 0)}, 2)
			next(t, g, []api.Item{item(many-2, 0, 5), it}, 4)
			next(t, g, []api.Item{item(0, 0, 1), it, it, item(many-1, 0, 0)}, 1|end)
		}
		next(t, g, wrong, 0)
		next(t, g, append(wrong, item(many-2, 0, 0), item(many-2, 1, 0)), 4|end)
	}
	for _, it := range []api.Item{item(0, 0, 0), item(0, 1, 0), item(-1, 0, 0)} { // no production at all
		next(t, api.Grammar{Terms: 1, Nons: 1}, []api.Item{it}, 0)
	}
}

// P18.1: an item of which a nonterminal is next tells nothing, whatever comes of that.
func TestNextNonterminal(t *testing.T) {
	g := of("0: a 1 b; 1: c; 1:; 0: 0; 0: 2 2; 2: 1 d")
	for _, k := range froms {
		next(t, g, []api.Item{item(0, 1, k)}, 0)
		next(t, g, []api.Item{item(3, 0, k)}, 0)
		next(t, g, []api.Item{item(4, 0, k), item(4, 1, k), item(5, 0, k)}, 0)
		next(t, g, []api.Item{item(4, 0, k), item(0, 2, k), item(5, 0, k)}, 2)
	}
	for non := range api.MostNons { // none is taken for the terminal of its number
		g := grammar(api.MostNons, "0: "+string(rune('a'+non%api.MostTerms))+";"+ring())
		for prod := 1; prod < len(g.Prods); prod++ {
			next(t, g, []api.Item{item(prod, 1, 0)}, 0)
		}
		next(t, g, []api.Item{item(1, 1, 0), item(0, 0, 0)}, 1<<(non%api.MostTerms))
	}
}

// P18.1, R6: no items, be they nil or an empty list, tell nothing.
func TestNextOfNone(t *testing.T) {
	for _, g := range []api.Grammar{of("0: a"), of("0:"), of("0: a 0; 0:"), {Nons: 1}, {}, tokens(api.MostTerms)} {
		for _, set := range [][]api.Item{nil, {}, make([]api.Item, 0, 3), {item(0, 0, 0)}, {item(0, 1, 0)}} {
			if got := chart.Next(g, set[:0]); got != 0 {
				t.Errorf("Next(%v, none): %b", g, got)
			}
			next(t, g, set[:0], 0)
		}
	}
}

// P18.1: 0, if the grammar may not be, of items that would tell something.
func TestNextMayNotBe(t *testing.T) {
	var all []api.Item
	for prod := range api.MostProds + 2 {
		for dot := range api.MostRight + 3 {
			for _, k := range []int{0, 1, -1} {
				all = append(all, item(prod, dot, k))
			}
		}
	}
	for what, g := range mayNot() {
		if gram.Right(g) {
			t.Errorf("%s may be", what)
		}
		next(t, g, all, 0)
		for _, it := range all[:100] {
			next(t, g, []api.Item{it}, 0)
		}
	}
	next(t, terms(3, of("0: a 1 0; 0: b; 1: c; 1:")), all, 1|2|4|end)
}

// P18.1: a grammar that may be and isn't sound is answered as any other.
func TestNextUnsound(t *testing.T) {
	for _, c := range []struct {
		g api.Grammar
		e api.Errno
	}{
		{of("0: 0 a; 0: a"), api.ErrLeft},
		{of("0: 0 a; 0: a; 0: 0"), api.ErrLeft},
		{of("0: 1 0 a; 0: a; 1:"), api.ErrLeft},
		{of("0: a; 1: a"), api.ErrAlone},
		{of("0: a 0"), api.ErrDead},
		{of("0: a; 0: a 1; 1: a 1"), api.ErrDead},
		{grammar(2, "0: a; 0: a 1"), api.ErrDead},
	} {
		if _, e := sound.Check(c.g); e != c.e {
			t.Errorf("%v: %v, not %v", c.g, e, c.e)
		}
		for prod, p := range c.g.Prods {
			for dot, s := range p.Right {
				if s.Non {
					next(t, c.g, []api.Item{item(prod, dot, 0)}, 0)
				} else {
					next(t, c.g, []api.Item{item(prod, dot, 9)}, 1)
				}
			}
			want := uint32(end)
			if p.Left != c.g.Start {
				want = 0
			}
			next(t, c.g, []api.Item{item(prod, len(p.Right), 0)}, want)
			next(t, c.g, []api.Item{item(prod, len(p.Right), 1)}, 0)
		}
	}
}

// P18.1: of any items, of any grammars that may be, sound or not.
func TestNextAny(t *testing.T) {
	r := rand.New(rand.NewSource(181))
	told := map[uint32]int{}
	for range 3000 {
		g := anyOne(r)
		if r.Intn(4) == 0 {
			g.Start = r.Intn(g.Nons)
		}
		var l []api.Item
		for range r.Intn(30) {
			it := item(r.Intn(len(g.Prods)+2)-1, r.Intn(api.MostRight+3)-1, r.Intn(4)-1)
			if r.Intn(2) == 0 && it.Prod >= 0 && it.Prod < len(g.Prods) {
				it.Dot = len(g.Prods[it.Prod].Right)
			}
			l = append(l, it)
		}
		bits := nextBy(g, l)
		next(t, g, l, bits)
		told[bits]++
	}
	if len(told) < 100 {
		t.Errorf("%d different answers: too few to show anything", len(told))
	}
}
