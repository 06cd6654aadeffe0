package sound_test

import (
	"math/bits"
	"slices"
	"strconv"
	"strings"
	"testing"

	"probate/api"
	"probate/sound"
)

// P14.1: ErrDead of a nonterminal without a production.
func TestDeadWithoutProduction(t *testing.T) {
	says(t, grammar(2, "0: a; 0: 1"), 1, api.ErrDead)
	says(t, grammar(2, "0: a; 0: a 1 b"), 1, api.ErrDead)
	says(t, grammar(2, "0: a"), 1, api.ErrDead)
	says(t, grammar(3, "0: a 2 1; 0:; 2: b"), 1, api.ErrDead)
	says(t, grammar(3, "0: a 2 1; 0:; 1: b"), 2, api.ErrDead)
}

// P14.1: ErrDead of one whose productions all lead back to itself, at whatever place; and not of one that has another one.
func TestDeadBackToItself(t *testing.T) {
	says(t, grammar(2, "0: a; 0: 1; 1: a 1"), 1, api.ErrDead)
	says(t, grammar(2, "0: a; 0: 1; 1: a 1 b; 1: b 1 1; 1: a b c d e f g 1"), 1, api.ErrDead)
	says(t, grammar(2, "0: a; 0: 1; 1: a 1 b; 1: b 1 1; 1:"), 0, api.OK)
	says(t, grammar(2, "0: a; 0: 1; 1: 1"), 1, api.ErrDead)
	says(t, grammar(2, "0:; 0: a 1; 1: b 0 1"), 1, api.ErrDead)
	says(t, grammar(2, "0:; 0: a 1; 1: b 0"), 0, api.OK)
	for place := range api.MostRight {
		text := "0: a; 0: 1; 1:" + strings.Repeat(" b", place) + " 1" + strings.Repeat(" a", api.MostRight-1-place)
		says(t, grammar(2, text), 1, api.ErrDead)
		says(t, grammar(2, strings.Repeat(text+";", 20)), 1, api.ErrDead)
	}
}

// P14.1: ErrDead of some that only lead to each other, but not where a word comes of one of them.
func TestDeadEachOther(t *testing.T) {
	says(t, grammar(3, "0: a; 0: 1; 1: a 2; 2: b 1"), 1, api.ErrDead)
	says(t, grammar(3, "0: a; 0: 1; 1: a 2; 2: b 1; 2: b"), 0, api.OK)
	says(t, grammar(3, "0: a; 0: 2; 2: a 1; 1: b 2; 1: c 1; 1: 2 2"), 1, api.ErrDead)
	says(t, grammar(4, "0: a; 0: 3; 3: a 2; 2: b 3; 3: 1; 1: c"), 0, api.OK)
	says(t, grammar(4, "0: a; 0: 1; 0: 3; 3: a 2; 2: b 3; 1: c"), 2, api.ErrDead)
	says(t, grammar(4, "0: a; 0: 1; 1: a 2; 2: b 3; 3: c 1"), 1, api.ErrDead)
	says(t, grammar(4, "0: a; 0: 1; 1: a 2; 2: b 3; 3: c 1; 3:"), 0, api.OK)
	for out := range api.MostNons {
		g := ring("a ", "b")
		g.Prods = slices.DeleteFunc(g.Prods, func(p api.Prod) bool { return len(p.Right) == 1 && p.Left != out })
		says(t, g, 0, api.OK)
		g.Prods = slices.DeleteFunc(g.Prods, func(p api.Prod) bool { return len(p.Right) == 1 })
		says(t, from(out, g), 0, api.ErrDead)
	}
}

// P14.1: ErrDead of one that lacks a word only because another one does, be that one the lesser or the greater.
func TestDeadThroughAnother(t *testing.T) {
	says(t, grammar(3, "0: a; 0: 1; 1: a 2"), 1, api.ErrDead)
	says(t, grammar(3, "0: a; 0: 1; 1: a 2; 2: b"), 0, api.OK)
	says(t, grammar(3, "0: a; 0: 2; 2: a 1"), 1, api.ErrDead)
	says(t, grammar(3, "0: a; 0: 2; 2: a 1; 1:"), 0, api.OK)
	says(t, grammar(3, "0: a 1; 1: b 2"), 0, api.ErrDead)
	says(t, grammar(3, "0: 1 2; 1: b"), 0, api.ErrDead)
	says(t, grammar(3, "0: 2 1; 2: b"), 0, api.ErrDead)
	says(t, grammar(4, "0: a; 0: 1; 1: 2 3; 1: 3 2; 2: b"), 1, api.ErrDead)
	says(t, grammar(4, "0: a; 0: 1; 1: 2 3; 1: 3 2; 1: 2; 2: b"), 3, api.ErrDead)
	for far := 1; far < api.MostNons; far++ { // all lead to far, and of that nothing comes
		g := grammar(far+1, "")
		for i := range far {
			g.Prods = append(g.Prods, api.Prod{Left: i, Right: []api.Sym{{N: 1}, {Non: true, N: i + 1}}})
		}
		says(t, g, 0, api.ErrDead)
		g.Prods = append(g.Prods, api.Prod{Left: 0})
		says(t, g, 1, api.ErrDead)
		g.Prods[far].Left = far
		says(t, g, 0, api.OK)
	}
}

// P14.1: ErrDead of Start itself, 0 and another one.
func TestDeadStart(t *testing.T) {
	says(t, grammar(1, "0: 0"), 0, api.ErrDead)
	says(t, grammar(1, "0: a 0; 0: 0 0"), 0, api.ErrDead)
	says(t, grammar(2, "1: a"), 0, api.ErrDead)
	says(t, grammar(2, "0: 1 0; 1: a"), 0, api.ErrDead)
	says(t, from(1, grammar(2, "0: a")), 1, api.ErrDead)
	says(t, from(1, grammar(2, "0: a; 1: 0 1")), 1, api.ErrDead)
	says(t, from(1, grammar(2, "0: a; 1: 0")), 0, api.OK)
	says(t, from(2, grammar(3, "0: a; 1: b; 2: 0 1 2")), 2, api.ErrDead)
	says(t, from(last, grammar(api.MostNons, strings.Repeat("23: 23;", api.MostProds))), 0, api.ErrDead)
}

// P14.1: ErrDead of 0 for a grammar of no productions, be they none or an empty list (R6), whichever Start is.
func TestNoProductions(t *testing.T) {
	for nons := 1; nons <= api.MostNons; nons++ {
		for start := range nons {
			says(t, api.Grammar{Nons: nons, Start: start}, 0, api.ErrDead)
			says(t, api.Grammar{Terms: api.MostTerms, Nons: nons, Start: start, Prods: []api.Prod{}}, 0, api.ErrDead)
		}
	}
}

// P14.1: ErrAlone of one to which nothing leads from Start, be there terminals of its number.
func TestAloneNothingLeads(t *testing.T) {
	says(t, grammar(2, "0: a; 1: b"), 1, api.ErrAlone)
	says(t, grammar(2, "0: b; 1:"), 1, api.ErrAlone)
	says(t, grammar(2, "0: a b c d; 0: a 0; 1: b"), 1, api.ErrAlone)
	says(t, grammar(2, "0: a; 1: 0"), 1, api.ErrAlone)
	says(t, grammar(2, "0: a; 1: b 0 1; 1: c"), 1, api.ErrAlone)
	says(t, grammar(3, "0: a 2; 1: b 0; 2: c"), 1, api.ErrAlone)
	says(t, grammar(3, "0: a 1; 1: b 0; 1: c; 2: 0 1"), 2, api.ErrAlone)
	says(t, grammar(3, "0: a 1; 1: b 0; 1: c; 1: 2; 2: d"), 0, api.OK)
	for place := range api.MostRight { // wherever it stands in a production, it is reached
		ahead, behind := strings.Repeat("a ", place), strings.Repeat(" b", api.MostRight-1-place)
		says(t, grammar(2, "0: "+ahead+"1"+behind+"; 1: b"), 0, api.OK)
		says(t, grammar(2, "0: "+ahead+"b"+behind+"; 1: b"), 1, api.ErrAlone)
	}
}

// P14.1: ErrAlone of one to which only itself leads, and of those to which only others lead that aren't reached.
func TestAloneOnlyItself(t *testing.T) {
	says(t, grammar(2, "0: a; 1: b 1; 1: c"), 1, api.ErrAlone)
	says(t, grammar(2, "0: a; 1: b 1 1; 1:"), 1, api.ErrAlone)
	says(t, grammar(3, "0: a 2; 2:; 1: b 1; 1: c"), 1, api.ErrAlone)
	says(t, grammar(3, "0: a; 1: b 2; 2: c"), 1, api.ErrAlone)
	says(t, grammar(3, "0: a; 2: b 1; 1: c"), 1, api.ErrAlone)
	says(t, grammar(3, "0: a; 1: b 2; 2: c 1; 2: d"), 1, api.ErrAlone)
	says(t, grammar(3, "0: a 1; 0: b; 1: b 0; 2: c 1"), 2, api.ErrAlone)
	says(t, grammar(4, "0: a 3; 1: b 2; 2: c 1; 2: d; 3: a; 2: 3"), 1, api.ErrAlone)
	says(t, grammar(4, "0: a 1; 1:; 3: b 2; 2: c 3; 2: d"), 2, api.ErrAlone)
	says(t, grammar(4, "0: a 1; 1:; 1: a 3; 3: b 2; 2: c 3; 2: d"), 0, api.OK)
}

// P14.1: ErrAlone of 0, where Start is another one that doesn't lead to it.
func TestAloneOtherStart(t *testing.T) {
	says(t, from(1, grammar(2, "0: a; 1: b")), 0, api.ErrAlone)
	says(t, from(1, grammar(2, "0: a 1; 1: b")), 0, api.ErrAlone)
	says(t, from(1, grammar(2, "0: a 0; 0: 1; 1: b")), 0, api.ErrAlone)
	says(t, from(1, grammar(2, "0: a 1; 1: b; 1: b 0")), 0, api.OK)
	says(t, from(2, grammar(3, "0: a 1; 1: b 2; 2: c 1; 2: d")), 0, api.ErrAlone)
	says(t, from(2, grammar(3, "0: a 1; 1: b 0; 1: c; 2: d")), 0, api.ErrAlone)
	says(t, from(2, grammar(3, "0: a 1; 1: b 0; 1: c; 2: 0")), 0, api.OK)
	says(t, from(2, grammar(3, "0: a 1; 1: b; 2: 0")), 0, api.OK)
	says(t, from(1, grammar(3, "0: a 1; 1: b; 2: 0; 1: 0")), 2, api.ErrAlone)
	text := ""
	for i := range last { // a row of nonterminals: what is ahead of Start isn't reached
		text += strconv.Itoa(i) + ": a " + strconv.Itoa(i+1) + ";"
	}
	says(t, grammar(api.MostNons, text+"23: b"), 0, api.OK)
	for start := 1; start < api.MostNons; start++ {
		says(t, from(start, grammar(api.MostNons, text+"23: b")), 0, api.ErrAlone)
		says(t, from(start, grammar(api.MostNons, text+"23: b; 23: c 0")), 0, api.OK)
		says(t, from(start, grammar(api.MostNons, text+"23: b; 23: c 1")), 0, api.ErrAlone)
	}
}

// P14.1: ErrLeft of one that leads to itself at the first place.
func TestLeftFirstPlace(t *testing.T) {
	says(t, grammar(1, "0: 0; 0: a"), 0, api.ErrLeft)
	says(t, grammar(1, "0: 0 0; 0: a"), 0, api.ErrLeft)
	says(t, grammar(2, "0: 1; 1: 1 a; 1: b"), 1, api.ErrLeft)
	says(t, grammar(3, "0: a 1 2; 1: b; 2: c; 2: 2 1"), 2, api.ErrLeft)
	for many := range api.MostRight {
		says(t, grammar(1, "0: a; 0: 0"+strings.Repeat(" a", many)), 0, api.ErrLeft)
	}
	for many := range api.MostProds - 1 {
		says(t, grammar(1, "0: a;"+strings.Repeat("0: a 0;", many)+"0: 0 b;"+strings.Repeat("0: b 0;", api.MostProds-2-many)), 0, api.ErrLeft)
	}
}

// P14.1: ErrLeft of one that leads to itself behind nullable nonterminals, one and more, and through others.
func TestLeftBehindNullable(t *testing.T) {
	says(t, grammar(2, "0: 1 0; 0: a; 1:"), 0, api.ErrLeft)
	says(t, grammar(2, "0: 1 0 b; 0: a; 1: b; 1:"), 0, api.ErrLeft)
	says(t, grammar(2, "0: 1 0 b; 0: a; 1: b"), 0, api.OK)
	says(t, grammar(3, "0: a 1; 1: 2 2 1; 1: b; 2:"), 1, api.ErrLeft)
	says(t, grammar(4, "0: 1 0; 0: a; 1: 2 3; 2:; 3: 2 2"), 0, api.ErrLeft)
	says(t, grammar(4, "0: 1 0; 0: a; 1: 2 3; 2:; 3: 2 c"), 0, api.OK)
	says(t, grammar(8, "0: 7 6 5 4 3 2 1 0; 0: a; 1:; 2:; 3:; 4:; 5:; 6:; 7:"), 0, api.ErrLeft)
	says(t, grammar(8, "0: 7 6 5 4 3 2 1 0; 0: a; 1: b; 2:; 3:; 4:; 5:; 6:; 7:"), 0, api.OK)
}

// P14.1: ErrLeft of the least of those that lead to themselves through others, and not of one that only leads to these.
func TestLeftThroughOthers(t *testing.T) {
	says(t, grammar(2, "0: 1; 1: 0; 1: a"), 0, api.ErrLeft)
	says(t, grammar(2, "0: 1 a; 1: 0 b; 0: c"), 0, api.ErrLeft)
	says(t, grammar(3, "0: a 1; 1: 2; 2: 1 b; 2: c"), 1, api.ErrLeft)
	says(t, grammar(3, "0: 1; 1: 2; 2: 1 b; 2: c"), 1, api.ErrLeft)
	says(t, grammar(3, "0: 1; 1: 2; 2: 2 b; 2: c"), 2, api.ErrLeft)
	says(t, grammar(3, "0: 1; 1: 2; 2: b 1; 2: c"), 0, api.OK)
	says(t, grammar(4, "0: 3 1; 3:; 1: 3 2; 2: 3 3 0; 2: c"), 0, api.ErrLeft)
	says(t, grammar(4, "0: 3 1; 3: d; 1: 3 2; 2: 3 3 0; 2: c"), 0, api.OK)
	says(t, ring("", "a"), 0, api.ErrLeft)
	for i := range api.MostNons {
		g := ring("", "a")
		g.Prods[2*i].Right = append([]api.Sym{{N: 3}}, g.Prods[2*i].Right...)
		says(t, g, 0, api.OK) // one step of the round is missing
		g.Prods[2*i].Right = []api.Sym{{Non: true, N: i}, {N: 3}}
		if i < last {
			g.Prods[2*i+1].Right = []api.Sym{{N: 2}, {Non: true, N: i + 1}}
		}
		g.Prods = append(g.Prods, api.Prod{Left: i})
		says(t, g, i, api.ErrLeft) // and that one leads to itself
	}
}

// P14.1: ErrLeft of one that is nullable itself, at a later place than the first, too.
func TestLeftNullable(t *testing.T) {
	says(t, grammar(1, "0: 0; 0:"), 0, api.ErrLeft)
	says(t, grammar(1, "0: 0 a; 0:"), 0, api.ErrLeft)
	says(t, grammar(1, "0: 0 0 a; 0:"), 0, api.ErrLeft)
	says(t, grammar(2, "0: 1 0; 0:; 1:"), 0, api.ErrLeft)
	says(t, grammar(2, "0: 1; 1: 0; 1:"), 0, api.ErrLeft)
	says(t, grammar(2, "0: a 1; 1: 1; 1:"), 1, api.ErrLeft)
	says(t, grammar(2, "0: a 1 0; 0:; 1:"), 0, api.OK)
}

// some is a set of nonterminals: a number whose bit k is 1, if k is in it; its least one, where there is one.
type some uint32

func (s some) has(non int) bool { return s>>non&1 == 1 }
func (s some) least() int       { return bits.TrailingZeros32(uint32(s)) }

// star is a grammar in which Start leads to all others but those that are to be alone, of each comes a word but of those that are to be dead, and those lead to themselves that are to.
func star(nons, start int, dead, alone, left some) api.Grammar {
	g := api.Grammar{Terms: 2, Nons: nons, Start: start}
	put := func(non int, right ...api.Sym) { g.Prods = append(g.Prods, api.Prod{Left: non, Right: right}) }
	a := api.Sym{N: 0}
	for non := range nons {
		is := api.Sym{Non: true, N: non}
		switch {
		case alone.has(non) || non == start:
		case dead.has(start):
			put(start, a, is, api.Sym{Non: true, N: start})
		default:
			put(start, a, is)
		}
		if !dead.has(non) {
			put(non, a)
		}
		if left.has(non) {
			put(non, is, a)
		}
	}
	return g
}

// tellsStar holds what is told of a star.
func tellsStar(t *testing.T, nons, start int, dead, alone, left some) {
	t.Helper()
	wantNon, want := 0, api.OK
	switch {
	case dead != 0:
		wantNon, want = dead.least(), api.ErrDead
	case alone != 0:
		wantNon, want = alone.least(), api.ErrAlone
	case left != 0:
		wantNon, want = left.least(), api.ErrLeft
	}
	g := star(nons, start, dead, alone, left)
	if non, e := sound.Check(g); non != wantNon || e != want {
		t.Fatalf("Check(%v): %d, %v, not %d, %v", g, non, e, wantNon, want)
	}
}

// P14.1: each kind of fault at each of as many nonterminals as there may be, and at each two: the least is told.
func TestEachAlone(t *testing.T) {
	for start := range api.MostNons {
		tellsStar(t, api.MostNons, start, 0, 0, 0)
		for one := range api.MostNons {
			for other := range api.MostNons {
				at := some(1<<one | 1<<other)
				tellsStar(t, api.MostNons, start, at, 0, 0)
				tellsStar(t, api.MostNons, start, 0, 0, at)
				if one != start && other != start {
					tellsStar(t, api.MostNons, start, 0, at, 0)
				}
			}
		}
	}
}

// P14.1: each two kinds, and all three, at each of as many nonterminals as there may be, the same and others: a kind that is named first is told first, be its nonterminal the lesser or the greater.
func TestEachKinds(t *testing.T) {
	at := func(one int) some { return some(1<<one) & (1<<api.MostNons - 1) } // of MostNons none
	for _, start := range []int{0, 11, last} {
		for dead := range api.MostNons + 1 {
			for alone := range api.MostNons + 1 {
				for left := 0; left < api.MostNons+1 && alone != start; left++ {
					tellsStar(t, api.MostNons, start, at(dead), at(alone), at(left))
				}
			}
		}
	}
}

// P14.1: all sets of faults of all kinds that there may be at four nonterminals.
func TestAllSets(t *testing.T) {
	const nons, sets = 4, some(1) << 4
	for start := range nons {
		for dead := range sets {
			for alone := range sets {
				for left := range sets {
					if !alone.has(start) {
						tellsStar(t, nons, start, dead, alone, left)
					}
				}
			}
		}
	}
}

// P14.1: two kinds, and all three, at one nonterminal.
func TestKindsAtOne(t *testing.T) {
	says(t, grammar(2, "0: a; 0: 1; 1: 1"), 1, api.ErrDead)    // dead and left
	says(t, grammar(1, "0: 0 a"), 0, api.ErrDead)              // likewise, Start
	says(t, grammar(2, "0: a; 1: b 1"), 1, api.ErrDead)        // dead and alone
	says(t, grammar(2, "0: a; 1: 1 b; 1: c"), 1, api.ErrAlone) // alone and left
	says(t, grammar(2, "0: a; 1: 1 b"), 1, api.ErrDead)        // all three
	says(t, from(1, grammar(2, "0: 0; 1: a")), 0, api.ErrDead)
	says(t, from(1, grammar(2, "0: 0; 0:; 1: a")), 0, api.ErrAlone)
}

// P14.1: two kinds at two nonterminals, both ways round, and three at three.
func TestKindsAtSeveral(t *testing.T) {
	says(t, grammar(3, "0: a; 0: b 1; 2: c"), 1, api.ErrDead)                // 1 is dead, 2 alone
	says(t, grammar(3, "0: a; 0: b 2; 1: c"), 2, api.ErrDead)                // 1 is alone, 2 dead
	says(t, grammar(3, "0: a 2; 0: b 1; 0:; 2: 2 a; 2: b"), 1, api.ErrDead)  // 1 is dead, 2 left
	says(t, grammar(3, "0: a 1; 0: b 2; 0:; 1: 1 a; 1: b"), 2, api.ErrDead)  // 1 is left, 2 dead
	says(t, grammar(3, "0: a 2; 1: b; 2: 2 a; 2: b"), 1, api.ErrAlone)       // 1 is alone, 2 left
	says(t, grammar(3, "0: a 1; 2: b; 1: 1 a; 1: b"), 2, api.ErrAlone)       // 1 is left, 2 alone
	says(t, grammar(2, "0: 0 a; 0: b 1; 0:"), 1, api.ErrDead)                // Start is left, 1 dead
	says(t, grammar(2, "0: 0 a; 0: b; 1: c"), 1, api.ErrAlone)               // Start is left, 1 alone
	says(t, from(1, grammar(2, "0: a; 1: b 1")), 1, api.ErrDead)             // 0 is alone, Start dead
	says(t, from(1, grammar(2, "0: a; 1: 1 b; 1: c")), 0, api.ErrAlone)      // 0 is alone, Start left
	says(t, from(1, grammar(2, "0: 0 a; 0: b; 1: 0 1")), 1, api.ErrDead)     // 0 is left, Start dead
	says(t, grammar(3, "0: 0 a; 0: b 2; 0: c; 1: a"), 2, api.ErrDead)        // left, alone, dead
	says(t, grammar(3, "0: b 1; 0: c; 1: 1 a; 1:"), 2, api.ErrDead)          // 1 is left, 2 dead and alone
	says(t, from(1, grammar(3, "0: a; 1: 2 0 1; 2: 2; 2:")), 1, api.ErrDead) // Start is dead, 2 left
	says(t, from(2, grammar(3, "0: a; 1: 1 a; 1: b; 2: 1 c; 2: 1 2")), 0, api.ErrAlone)
}
