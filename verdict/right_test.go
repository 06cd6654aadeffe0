package verdict_test

import (
	"fmt"
	"testing"

	"probate/api"
	"probate/verdict"
)

// setsOf is a proof of these sets alone, leadsOf one of these leads alone.
func setsOf(l ...[]api.Item) verdict.Proof { return verdict.Proof{Sets: l} }
func leadsOf(l ...[]int) verdict.Proof     { return verdict.Proof{Leads: l} }

// greatest is the item of which each number is as great as may be.
var greatest = api.Item{Prod: mostProd, Dot: mostDot, From: mostPlace}

// fullProof is as great as may be in all.
func fullProof() verdict.Proof {
	return verdict.Proof{Sets: many(mostSets, many(mostItems, greatest)), Leads: many(mostLeads, many(mostSteps, mostProd))}
}

// boundedProofs are those in which one part is at a bound: those that may be, and those that may not be for one reason.
func boundedProofs() (may, not map[string]verdict.Proof) {
	may = map[string]verdict.Proof{
		"nothing":         {},
		"empty lists":     {Sets: [][]api.Item{}, Leads: [][]int{}},
		"full":            fullProof(),
		"an empty set":    setsOf(nil),
		"an empty lead":   leadsOf(nil),
		"empty ones":      {Sets: [][]api.Item{{}, nil, {}}, Leads: [][]int{nil, {}}},
		"one of each":     {Sets: [][]api.Item{{{}}}, Leads: [][]int{{0}}},
		"sets with none":  setsOf(nil, []api.Item{{Prod: 1, Dot: 2, From: 3}}, nil),
		"the same, twice": setsOf(many(2, greatest), many(2, greatest)),
		"From behind":     setsOf([]api.Item{greatest}),
		"leads, no sets":  leadsOf([]int{1, 2}, nil, []int{3}),
		"as many, all 0":  {Sets: many(mostSets, many(mostItems, api.Item{})), Leads: many(mostLeads, make([]int, mostSteps))},
	}
	not = map[string]verdict.Proof{}
	boundedSets(may, not)
	boundedItems(may, not)
	boundedLeads(may, not)
	return may, not
}

func boundedSets(may, not map[string]verdict.Proof) {
	for _, size := range []int{1, 2, mostSets - 1, mostSets} {
		may[fmt.Sprint(size, " Sets")] = setsOf(make([][]api.Item, size)...)
	}
	for _, size := range []int{mostSets + 1, mostSets + 2, 128, 256, 5000} {
		not[fmt.Sprint(size, " Sets")] = setsOf(make([][]api.Item, size)...)
		full := fullProof()
		full.Sets = many(size, []api.Item{{}})
		not[fmt.Sprint(size, " Sets, full")] = full
	}
	for _, size := range []int{1, 3, mostSets} {
		for _, at := range ends(size) {
			for _, items := range []int{0, 1, 128, mostItems - 1, mostItems} {
				may[fmt.Sprint(items, " items at ", at, " of ", size)] = setsOf(with(many(size, []api.Item{{}}), at, make([]api.Item, items))...)
			}
			for _, items := range []int{mostItems + 1, mostItems + 2, 2048, 1<<16 + 1} {
				not[fmt.Sprint(items, " items at ", at, " of ", size)] = setsOf(with(many(size, []api.Item{{}}), at, make([]api.Item, items))...)
			}
		}
	}
}

// itemsMay are items that may be, by what they are: each number of them at its bound, alone.
func itemsMay() map[string]api.Item {
	l := map[string]api.Item{"an item of 0": {}, "the greatest": greatest}
	prods, _ := around(mostProd)
	for _, n := range prods {
		l[fmt.Sprint("Prod ", n)] = api.Item{Prod: n}
	}
	dots, _ := around(mostDot)
	for _, n := range dots {
		l[fmt.Sprint("Dot ", n)] = api.Item{Dot: n}
	}
	froms, _ := around(mostPlace)
	for _, n := range froms {
		l[fmt.Sprint("From ", n)] = api.Item{From: n}
	}
	return l
}

// itemsNot are items that may not be, for one of their numbers alone.
func itemsNot() map[string]api.Item {
	l := map[string]api.Item{}
	for _, of := range []api.Item{{}, {Prod: 1, Dot: 2, From: 3}, greatest} {
		_, prods := around(mostProd)
		for _, n := range prods {
			l[fmt.Sprint("Prod ", n, " of ", of)] = api.Item{Prod: n, Dot: of.Dot, From: of.From}
		}
		_, dots := around(mostDot)
		for _, n := range dots {
			l[fmt.Sprint("Dot ", n, " of ", of)] = api.Item{Prod: of.Prod, Dot: n, From: of.From}
		}
		_, froms := around(mostPlace)
		for _, n := range froms {
			l[fmt.Sprint("From ", n, " of ", of)] = api.Item{Prod: of.Prod, Dot: of.Dot, From: n}
		}
	}
	return l
}

// boundedItems puts items at the first, a middle and the last place of the first, a middle and the last set.
func boundedItems(may, not map[string]verdict.Proof) {
	for _, size := range []int{1, 5} {
		for _, at := range ends(size) {
			for _, set := range ends(3) {
				put := func(it api.Item) verdict.Proof {
					return setsOf(with(many(3, []api.Item{{}}), set, with(many(size, api.Item{Prod: 1, Dot: 1, From: 1}), at, it))...)
				}
				for name, it := range itemsMay() {
					may[fmt.Sprint(name, " at ", at, " of ", size, ", set ", set)] = put(it)
				}
				for name, it := range itemsNot() {
					not[fmt.Sprint(name, " at ", at, " of ", size, ", set ", set)] = put(it)
				}
			}
		}
	}
	for _, n := range []int{-1, mostProd + 1} {
		full := fullProof()
		full.Sets[mostSets-1] = with(full.Sets[0], mostItems-1, api.Item{Prod: n})
		not[fmt.Sprint("full, Prod ", n)] = full
	}
}

func boundedLeads(may, not map[string]verdict.Proof) {
	for _, size := range []int{1, 2, mostLeads - 1, mostLeads} {
		may[fmt.Sprint(size, " Leads")] = leadsOf(make([][]int, size)...)
	}
	for _, size := range []int{mostLeads + 1, mostLeads + 2, mostSets, 128, 256, 5000} {
		not[fmt.Sprint(size, " Leads")] = leadsOf(make([][]int, size)...)
		full := fullProof()
		full.Leads = many(size, []int{0})
		not[fmt.Sprint(size, " Leads, full")] = full
	}
	for _, size := range []int{1, 3, mostLeads} {
		for _, at := range ends(size) {
			for name, l := range treesMay() {
				may[fmt.Sprint("lead ", name, " at ", at, " of ", size)] = leadsOf(with(many(size, []int{2}), at, l)...)
			}
			for name, l := range treesNot() {
				not[fmt.Sprint("lead ", name, " at ", at, " of ", size)] = leadsOf(with(many(size, []int{2}), at, l)...)
			}
		}
	}
}

// P20.1: Right at each bound, just met, and just passed.
func TestRight(t *testing.T) {
	may, not := boundedProofs()
	for name, p := range may {
		proofs.says(t, name, p, true)
	}
	for name, p := range not {
		proofs.says(t, name, p, false)
	}
	if len(may) < 300 || len(not) < 1000 {
		t.Errorf("%d, %d: too few to show anything", len(may), len(not))
	}
}
