package left_test

import (
	"math"
	"slices"
	"strconv"
	"strings"
	"testing"

	"probate/api"
	"probate/gram"
	"probate/left"
)

// told holds the way of a nonterminal, that it is told again when what was told is changed, and that the grammar stays as it was (R3, R4).
func told(t *testing.T, g api.Grammar, non int, want []left.Step) {
	t.Helper()
	before := gram.Clone(g)
	for range 3 {
		l := left.Way(g, non)
		if !slices.Equal(l, want) || len(want) == 0 && l != nil {
			t.Errorf("Way(%v, %d): %#v, not %v", g, non, l, want)
			return
		}
		for i := range l {
			l[i] = left.Step{Prod: 77, Dot: -77}
		}
		_ = append(l, left.Step{Prod: 88})
		if !gram.Same(g, before) {
			t.Errorf("Way changed %v to %v", before, g)
			return
		}
	}
}

// tells holds the ways of all nonterminals, parted by ";", whichever Start is: what Recursive tells, and that Leads says yes.
func tells(t *testing.T, g api.Grammar, ways string) {
	t.Helper()
	l := strings.Split(ways, ";")
	if len(l) != g.Nons {
		t.Fatalf("%d ways of %v", len(l), g)
	}
	for g.Start = range g.Nons {
		is := uint32(0)
		for non, way := range l {
			want := steps(way)
			told(t, g, non, want)
			if len(want) > 0 {
				is |= 1 << non
			}
			if left.Leads(g, non, non, want) != (len(want) > 0) {
				t.Errorf("of %v %v is not what its text says", g, want)
			}
		}
		recursive(t, g, is)
	}
}

// P13.1: one step, behind nothing and behind nullable ones; none, that is nil, where there is no way.
func TestOneStep(t *testing.T) {
	tells(t, grammar(1, "0: 0"), "0.0")
	tells(t, grammar(1, "0: a; 0: 0 a"), "1.0")
	tells(t, grammar(2, "0: 1 0; 1:"), "0.1;")
	tells(t, grammar(2, "0: 1; 1:; 1: 1"), ";2.0")
	tells(t, grammar(8, "1:; 2:; 3:; 4:; 5:; 6:; 7:; 0: 7 1 3 5 2 4 6 0"), "7.7;;;;;;;")
	tells(t, grammar(8, "1: a; 2:; 3:; 4:; 5:; 6:; 7:; 0: 7 1 3 5 2 4 6 0"), ";;;;;;;")
	tells(t, grammar(1, ""), "")
	tells(t, grammar(2, "0: a 0; 0: 1 0; 1: a"), ";")
	tells(t, grammar(3, "0: 1; 1: 2; 2: 2"), ";;2.0")
}

// P13.1: a shortest way, where there are longer ones whose first step is of a lesser production.
func TestShortest(t *testing.T) {
	tells(t, grammar(2, "0: 1; 1: 0; 0: 0"), "2.0;1.0 0.0")
	tells(t, grammar(2, "0: 1; 0: 0; 1: 0; 1: 1"), "1.0;3.0")
	tells(t, grammar(3, "0: 1; 1: 2; 2: 0; 0: 2"), "3.0 2.0;1.0 2.0 0.0;2.0 3.0")
	tells(t, grammar(3, "0: 1; 1: 2; 2: 0; 1: 0"), "0.0 3.0;3.0 0.0;2.0 0.0 1.0")
	tells(t, grammar(4, "0: 1; 1: 2; 2: 3; 3: 0; 0: 3; 0: 2"), "4.0 3.0;1.0 2.0 3.0 0.0;2.0 3.0 5.0;3.0 4.0")
	tells(t, grammar(5, "0: 1; 1: 2; 2: 0; 0: 3; 3: 4; 4: 0; 3: 0"), "3.0 6.0;1.0 2.0 0.0;2.0 0.0 1.0;6.0 3.0;5.0 3.0 4.0")
	for _, of := range orders() {
		for i := range api.MostNons {
			g := ring(of)
			g.Prods = append(g.Prods, api.Prod{Left: of(i), Right: []api.Sym{non(of(0))}})
			var want []left.Step
			for prod := range i {
				want = append(want, left.Step{Prod: prod})
			}
			if i < last {
				want = append(want, left.Step{Prod: api.MostNons})
			} else {
				want = append(want, left.Step{Prod: last}) // that step was there
			}
			told(t, g, of(0), want)
		}
	}
}

// P13.1: of several shortest ways that whose first step is of the least production.
func TestLeastProduction(t *testing.T) {
	tells(t, grammar(1, "0: 0; 0: 0"), "0.0")
	tells(t, grammar(1, "0: a; 0: 0 b; 0: 0"), "1.0")
	tells(t, grammar(1, "0: a;"+strings.Repeat("0: 0;", 59)), "1.0")
	tells(t, grammar(2, "1:; 0: a 0; 0: 1 0; 0: 0"), "2.1;")
	tells(t, grammar(3, "0: 1; 0: 2; 1: 0; 2: 0"), "0.0 2.0;2.0 0.0;3.0 1.0")
	tells(t, grammar(3, "0: 2; 0: 1; 1: 0; 2: 0"), "0.0 3.0;2.0 1.0;3.0 0.0")
	tells(t, grammar(3, "2: 0; 1: 0; 0: 2; 0: 1"), "2.0 0.0;1.0 3.0;0.0 2.0")
	tells(t, grammar(3, "1: 0; 2: 0; 0: 2; 0: 1"), "2.0 1.0;0.0 3.0;1.0 2.0")
	tells(t, grammar(5, "0: 1; 0: 2; 0: 3; 0: 4; 4: 0; 3: 0; 2: 0"), "1.0 6.0;;6.0 1.0;5.0 2.0;4.0 3.0")
	for many := 2; many <= 10; many++ { // the middle of as many ways has the least production
		text := ""
		for i := 1; i <= many; i++ {
			text += strconv.Itoa(i) + ": 0;"
		}
		for i := range many {
			text += "0: " + strconv.Itoa((i+many/2)%many+1) + ";"
		}
		g := grammar(many+1, text)
		told(t, g, 0, []left.Step{{Prod: many}, {Prod: many / 2}})
	}
}

// P13.1: where several first steps are of one production, that of the least place that a shortest way has; a lesser production goes ahead of a lesser place.
func TestLeastPlace(t *testing.T) {
	tells(t, grammar(1, "0: 0 0; 0:"), "0.0")
	tells(t, grammar(2, "0: 1 0 0; 1:; 0:"), "0.1;")
	tells(t, grammar(2, "0: 1 1 0 0 0; 1:; 0:"), "0.2;")
	tells(t, grammar(2, "0: 1 0; 0: 0; 1:"), "0.1;")
	tells(t, grammar(2, "0: 0; 0: 1 0; 1:"), "0.0;")
	tells(t, grammar(3, "0: 1 2; 1:; 1: 0; 2: 0"), "0.0 2.0;2.0 0.0;3.0 0.1")
	tells(t, grammar(3, "0: 2 1; 1: 0; 2: 0; 2:"), "0.0 2.0;1.0 0.1;2.0 0.0")
	tells(t, grammar(3, "0: 1 0; 1: 2; 2: 0; 1:"), "0.1;1.0 2.0 0.0;2.0 0.0 1.0")
	tells(t, grammar(4, "0: 1 2 3; 1:; 2:; 2: 0; 3: 0"), "0.1 3.0;;3.0 0.1;4.0 0.2")
	tells(t, grammar(4, "0: 1 2 3; 1:; 2:; 1: 2; 2: 0; 3: 0"), "0.1 4.0;3.0 4.0 0.0;4.0 0.1;5.0 0.2")
	tells(t, grammar(4, "0: 1 2 3; 0: 3; 1:; 2:; 2: a; 3: 0"), "0.2 5.0;;;5.0 0.2")
	tells(t, grammar(4, "0: 3; 0: 1 2 3; 1:; 2:; 2: a; 3: 0"), "0.0 5.0;;;5.0 0.0")
	for place := range api.MostRight { // that place is the first at which a shortest way begins
		text := "1:; 2: 0; 2:; 0: " + strings.Repeat("1 ", place) + strings.Repeat("2 ", api.MostRight-place)
		tells(t, grammar(3, text), "3."+strconv.Itoa(place)+" 1.0;;1.0 3."+strconv.Itoa(place))
	}
}

// P13.1: where the first steps are the same, the second or a later one is the least, by production and by place.
func TestLaterSteps(t *testing.T) {
	tells(t, grammar(2, "0: 1; 1: 0; 1: 0 a"), "0.0 1.0;1.0 0.0")
	tells(t, grammar(2, "0: 1; 1: a 0; 1: 0 a"), "0.0 2.0;2.0 0.0")
	tells(t, grammar(4, "0: 1; 1: 2; 1: 3; 2: 0; 3: 0"), "0.0 1.0 3.0;1.0 3.0 0.0;3.0 0.0 1.0;4.0 0.0 2.0")
	tells(t, grammar(4, "0: 1; 1: 3; 1: 2; 2: 0; 3: 0"), "0.0 1.0 4.0;1.0 4.0 0.0;3.0 0.0 2.0;4.0 0.0 1.0")
	tells(t, grammar(4, "3: 0; 2: 0; 1: 3; 1: 2; 0: 1"), "4.0 2.0 0.0;2.0 0.0 4.0;1.0 4.0 3.0;0.0 4.0 2.0")
	tells(t, grammar(4, "0: 1; 1: 2 3; 2:; 2: 0; 3: 0"), "0.0 1.0 3.0;1.0 3.0 0.0;3.0 0.0 1.0;4.0 0.0 1.1")
	tells(t, grammar(4, "0: 1; 1: 3 2; 2: 0; 3: 0; 3:"), "0.0 1.0 3.0;1.0 3.0 0.0;2.0 0.0 1.1;3.0 0.0 1.0")
	tells(t, grammar(3, "0: 1; 1: 2 0 0; 2:; 0:"), "0.0 1.1;1.1 0.0;")
	tells(t, grammar(3, "0: 1; 1: 2 0; 1: 0; 2:"), "0.0 1.1;1.1 0.0;")
	tells(t, grammar(3, "0: 1; 1: 0; 1: 2 0; 2:"), "0.0 1.0;1.0 0.0;")
	tells(t, grammar(4, "0: 1; 1: 2; 2: 3 3 0; 2: 0; 3:"), "0.0 1.0 2.2;1.0 2.2 0.0;2.2 0.0 1.0;")
	tells(t, grammar(4, "0: 1; 1: 2; 2: 0; 2: 3 3 0; 3:"), "0.0 1.0 2.0;1.0 2.0 0.0;2.0 0.0 1.0;")
	tells(t, grammar(5, "0: 1; 1: 2; 2: 4; 2: 3; 3: 0; 4: 0"), "0.0 1.0 2.0 5.0;1.0 2.0 5.0 0.0;2.0 5.0 0.0 1.0;4.0 0.0 1.0 3.0;5.0 0.0 1.0 2.0")
	tells(t, grammar(5, "0: 1; 1: 2; 2: 4 3; 3: 0; 4: 0; 4:"), "0.0 1.0 2.0 4.0;1.0 2.0 4.0 0.0;2.0 4.0 0.0 1.0;3.0 0.0 1.0 2.1;4.0 0.0 1.0 2.0")
	tells(t, grammar(5, "0: 1; 1: 2; 2: 4 3; 3: 0; 4: a; 4:"), "0.0 1.0 2.1 3.0;1.0 2.1 3.0 0.0;2.1 3.0 0.0 1.0;3.0 0.0 1.0 2.1;")
}

// round are the steps from a production on round through as many, whose places are told.
func round(from, many int, dot func(prod int) int) []left.Step {
	var l []left.Step
	for i := range many {
		prod := (from + i) % many
		l = append(l, left.Step{Prod: prod, Dot: dot(prod)})
	}
	return l
}

// P13.1: a way of as many steps as there may be nonterminals, from each of them, in rising, in falling and in another order, their productions in either order.
func TestLongest(t *testing.T) {
	none := func(int) int { return 0 }
	for _, of := range orders() {
		g := ring(of)
		for i := range api.MostNons {
			told(t, g, of(i), round(i, api.MostNons, none))
		}
		slices.Reverse(g.Prods)
		for i := range api.MostNons {
			l := round(i, api.MostNons, none)
			for at := range l {
				l[at].Prod = last - l[at].Prod
			}
			told(t, g, of(i), l)
		}
	}
}

// P13.1: in a long way, several steps that lead on from one and the same nonterminal, whichever it is: the least is told, by place, and by production.
func TestLongWithSeveral(t *testing.T) {
	for _, of := range []func(int) int{
		func(i int) int { return i },
		func(i int) int { return last - 1 - i },
		func(i int) int { return i * 7 % last },
	} {
		for several := range last {
			g := grammar(api.MostNons, "")
			for i := range last {
				g.Prods = append(g.Prods, api.Prod{Left: of(i), Right: []api.Sym{non(of((i + 1) % last))}})
			}
			to := g.Prods[several].Right[0]
			g.Prods[several].Right = []api.Sym{non(last), non(last), to, to}
			g.Prods = append(g.Prods, api.Prod{Left: last}, api.Prod{Left: of(several), Right: []api.Sym{to}})
			dot := func(prod int) int {
				if prod == several {
					return 2
				}
				return 0
			}
			for i := range last {
				told(t, g, of(i), round(i, last, dot))
			}
			told(t, g, last, nil)
			g.Prods[several].Left = last // that one is not its own any more
			for i := range last {
				l := round(i, last, func(int) int { return 0 })
				l[(several+last-i)%last].Prod = last + 1
				told(t, g, of(i), l)
			}
		}
	}
}

// P13.1: shortest ways that part at the first step and meet again later: the first step that differs tells, and no later one.
func TestPartAndMeet(t *testing.T) {
	tells(t, grammar(4, "0: 1; 0: 2; 1: 3; 2: 3; 3: 0"), "0.0 2.0 4.0;2.0 4.0 0.0;3.0 4.0 1.0;4.0 0.0 2.0")
	tells(t, grammar(4, "0: 1; 0: 2; 2: 3; 1: 3; 3: 0"), "0.0 3.0 4.0;3.0 4.0 0.0;2.0 4.0 1.0;4.0 0.0 3.0")
	tells(t, grammar(4, "2: 3; 0: 1; 0: 2; 1: 3; 3: 0"), "1.0 3.0 4.0;3.0 4.0 1.0;0.0 4.0 2.0;4.0 1.0 3.0")
	tells(t, grammar(4, "1: 3; 3: 0; 0: 2; 0: 1; 2: 3"), "2.0 4.0 1.0;0.0 1.0 3.0;4.0 1.0 2.0;1.0 2.0 4.0")
	tells(t, grammar(4, "2: 3; 1: 3; 0: 1 2; 3: 0; 1:"), "2.0 1.0 3.0;1.0 3.0 2.0;0.0 3.0 2.1;3.0 2.0 1.0")
	tells(t, grammar(4, "1: 3; 2: 3; 0: 2 1; 3: 0; 2:"), "2.0 1.0 3.0;0.0 3.0 2.1;1.0 3.0 2.0;3.0 2.0 1.0")
	tells(t, grammar(5, "0: 1; 0: 2; 1: 4 3; 2: 3; 3: 0; 4:"), "0.0 2.1 4.0;2.1 4.0 0.0;3.0 4.0 1.0;4.0 0.0 2.1;")
	tells(t, grammar(5, "0: 2; 0: 1; 1: 3; 2: 4 4 3; 3: 0; 4:"), "0.0 3.2 4.0;2.0 4.0 1.0;3.2 4.0 0.0;4.0 0.0 3.2;")
	tells(t, grammar(6, "0: 1; 2: 4; 1: 3; 4: 5; 3: 5; 0: 2; 5: 0"),
		"0.0 2.0 4.0 6.0;2.0 4.0 6.0 0.0;1.0 3.0 6.0 5.0;4.0 6.0 0.0 2.0;3.0 6.0 5.0 1.0;6.0 0.0 2.0 4.0")
	tells(t, grammar(6, "0: 2; 3: 5; 1: 3; 4: 5; 2: 4; 0: 1; 5: 0"),
		"0.0 4.0 3.0 6.0;2.0 1.0 6.0 5.0;4.0 3.0 6.0 0.0;1.0 6.0 5.0 2.0;3.0 6.0 0.0 4.0;6.0 0.0 4.0 3.0")
}

// orderings does something with each order of a list.
func orderings(l []api.Prod, at int, do func()) {
	if at == len(l) {
		do()
		return
	}
	for i := at; i < len(l); i++ {
		l[at], l[i] = l[i], l[at]
		orderings(l, at+1, do)
		l[at], l[i] = l[i], l[at]
	}
}

// compare tells which steps are ahead, step by step.
func compare(a, b []left.Step) int {
	return slices.CompareFunc(a, b, func(a, b left.Step) int {
		if a.Prod != b.Prod {
			return a.Prod - b.Prod
		}
		return a.Dot - b.Dot
	})
}

// P13.1: shortest ways that part and meet twice, their productions in each order, so that the lesser steps are now on the one, now on the other side.
func TestPartAndMeetTwice(t *testing.T) {
	for text, many := range map[string]int{ // how many of the four ways are the least in one of the orders
		"0: 1; 1: 3; 0: 2; 2: 3; 3: 4; 4: 0; 3: 5; 5: 0":   4,
		"0: 1 2 a; 1: 3; 1:; 2: 3; 3: 4; 4: 0; 3: 5; 5: 0": 2,
		"0: 1; 1: 3; 0: 2; 2: 3; 3: 5 4; 4: 0; 5: 0; 5:":   2,
	} {
		g, seen := grammar(6, text), map[int]bool{}
		orderings(g.Prods, 0, func() {
			at := map[string]left.Step{}
			for prod, p := range g.Prods {
				for dot, s := range p.Right {
					if s.Non {
						at[strconv.Itoa(p.Left)+strconv.Itoa(s.N)] = left.Step{Prod: prod, Dot: dot}
					}
				}
			}
			var ways [][]left.Step
			for _, through := range []string{"01 13 34 40", "01 13 35 50", "02 23 34 40", "02 23 35 50"} {
				var l []left.Step
				for _, f := range strings.Fields(through) {
					l = append(l, at[f])
				}
				ways = append(ways, l)
			}
			want := slices.MinFunc(ways, compare)
			if got := left.Way(g, 0); !slices.Equal(got, want) {
				t.Fatalf("Way(%v, 0): %v, not %v", g, got, want)
			}
			seen[slices.IndexFunc(ways, func(l []left.Step) bool { return slices.Equal(l, want) })] = true
		})
		if len(seen) != many {
			t.Errorf("%d of the ways are told of %s", len(seen), text)
		}
	}
}

// P13.1: one and the same production in several ways, at its places; and a longer way that has it twice is not told.
func TestSameProduction(t *testing.T) {
	tells(t, grammar(4, "0: 1 2 3; 1:; 2:; 1: 0; 2: 0; 3: 0"), "0.0 3.0;3.0 0.0;4.0 0.1;5.0 0.2")
	tells(t, grammar(4, "3: 0; 2: 0; 1: 0; 1:; 2:; 0: 3 2 1; 3:"), "5.0 0.0;2.0 5.2;1.0 5.1;0.0 5.0")
	tells(t, grammar(3, "0: 1 2; 1: 0; 1:; 2: 1"), "0.0 1.0;1.0 0.0;3.0 1.0 0.1")
	tells(t, grammar(3, "0: 1 2 0; 1: 0; 1:; 2: 0; 2:"), "0.2;1.0 0.0;3.0 0.1")
	tells(t, grammar(2, "0: 1 1 1 1 1 1 1 1; 1: 0; 1:"), "0.0 1.0;1.0 0.0")
	tells(t, grammar(2, "0: a 1; 0: 1 1 0; 1: 0; 1:"), "1.2;2.0 1.0")
}

// P13.1: nil for a nonterminal that is none, be it below 0, as many as there are, or far more, and where a number's low bits would be one's.
func TestNoNonterminal(t *testing.T) {
	g := grammar(2, "0: 0 1; 1: 1; 1: 0")
	for _, n := range []int{-1, -2, -24, -32, -64, math.MinInt, math.MinInt + 1, math.MinInt32, 2, 3, 23, 24, 25, 31, 32, 33, 64, 65, 1 << 32, math.MaxInt32, math.MaxInt} {
		told(t, g, n, nil)
		told(t, api.Grammar{Nons: 1}, n, nil)
		if n < 0 || n >= api.MostNons {
			told(t, ring(func(i int) int { return i }), n, nil)
		}
	}
	told(t, api.Grammar{Nons: 2, Prods: []api.Prod{{Right: []api.Sym{non(0)}}}}, 1, nil)
	tells(t, g, "0.0;1.0")
}

// P13.1: nil where there is no way, of a grammar in which others have one, and of one in which none has.
func TestNoWay(t *testing.T) {
	tells(t, grammar(3, "0: 1; 0: 2; 1: 2; 2: a"), ";;")
	tells(t, grammar(4, "0: 1; 1: 2; 2: 1; 3: 0; 3: 1"), ";1.0 2.0;2.0 1.0;")
	tells(t, grammar(4, "0: a 0; 1: 2 1; 2: b; 3: c 3; 3:"), ";;;")
	for nons := 1; nons <= api.MostNons; nons++ {
		for n := range nons {
			told(t, api.Grammar{Nons: nons}, n, nil)
			told(t, api.Grammar{Nons: nons, Prods: []api.Prod{}}, n, nil)
			told(t, api.Grammar{Nons: nons, Prods: []api.Prod{{Left: n}}}, n, nil)
		}
	}
	for _, of := range orders() {
		g := ring(of)
		g.Prods = g.Prods[:last]
		for n := range api.MostNons {
			told(t, g, n, nil)
		}
	}
}

// P13.1: nil for a grammar that may not be, whichever nonterminal is asked.
func TestWayOfWhatMayNotBe(t *testing.T) {
	for what, g := range mayNot() {
		t.Run(what, func(t *testing.T) {
			for _, n := range []int{0, 1, 2, 23, 24, -1, g.Nons - 1, g.Nons, math.MaxInt, math.MinInt} {
				told(t, g, n, nil)
			}
		})
	}
	tells(t, grammar(2, "0: 1; 1: 0 0; 1: a 1; 0: b"), "0.0 1.0;1.0 0.0")
}

// R3, R4, R5: a change of the grammar changes nothing of what was told, and a change of what was told nothing of the grammar, nor of another answer.
func TestNothingIsKept(t *testing.T) {
	const text, want = "0: 1 2 b; 1: 0 a; 1:; 2: 3; 3: 1 0", "0.0 1.0;1.0 0.0;3.0 4.1 0.1;4.1 0.1 3.0"
	g := grammar(4, text)
	first, second, other := left.Way(g, 2), left.Way(g, 2), left.Way(g, 3)
	clear(second[:cap(second)])
	_ = append(second[:0], left.Step{Prod: 9}, left.Step{Prod: 9})
	tells(t, grammar(4, "3: 3; 3: 2 2; 2: 0; 0: 1; 1: e; 1: 2"), "3.0 5.0 2.0;5.0 2.0 3.0;2.0 3.0 5.0;0.0")
	for i := range g.Prods {
		clear(g.Prods[i].Right)
		g.Prods[i].Left = 3
	}
	g.Nons, g.Start = 9, 2
	if !slices.Equal(first, steps("3.0 4.1 0.1")) || !slices.Equal(other, steps("4.1 0.1 3.0")) {
		t.Error(first, other)
	}
	tells(t, grammar(4, text), want)
}
