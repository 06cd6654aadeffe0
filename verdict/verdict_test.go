package verdict_test

import (
	"fmt"
	"math"
	"slices"
	"testing"

	"probate/api"
	"probate/verdict"
)

// The numbers of the chapter, and of DOC.md's limits, as they stand there.
const (
	mostProd   = 59
	mostDot    = 8
	mostPlace  = 24
	mostTok    = 15
	mostSteps  = 2000
	mostEdits  = 100
	mostSets   = 25
	mostItems  = 1500
	mostLeads  = 17
	mostExpect = 131071
	lowest     = math.MinInt
	highest    = math.MaxInt
)

// kinds are the four of them, by their names.
var kinds = map[string]int{"Accept": verdict.Accept, "Reject": verdict.Reject, "Mended": verdict.Mended, "Limit": verdict.Limit}

// many is a list of so many of one.
func many[T any](n int, one T) []T {
	return slices.Repeat([]T{one}, n)
}

// with is a copy of a list with another one at a place.
func with[T any](l []T, at int, one T) []T {
	l = slices.Clone(l)
	l[at] = one
	return l
}

// ends are the first, a middle and the last place of a list of so many.
func ends(many int) []int {
	return []int{0, many / 2, many - 1}
}

// around are numbers that may stand where the greatest is most, and numbers that may not.
func around(most int) (may, not []int) {
	return []int{0, 1, most - 1, most}, []int{-1, -2, lowest, lowest + 1, most + 1, most + 2, highest, most + 256, most + 1<<16, most + 1<<32, -most - 1}
}

// up is a list of so many numbers that go round from 0 to most.
func up(many, most int) []int {
	l := make([]int, many)
	for i := range l {
		l[i] = i % (most + 1)
	}
	return l
}

// text is all parts of a verdict, or of a proof; nil and an empty list are one there.
func text(one any) string {
	return fmt.Sprintf("%+v", one)
}

// short is bytes, as much of them as one cares to read.
func short(b []byte) string {
	return fmt.Sprintf("%.300s", fmt.Sprint(b))
}

// clone shares nothing with a verdict.
func clone(v verdict.Verdict) verdict.Verdict {
	v.Tree, v.Edits = slices.Clone(v.Tree), slices.Clone(v.Edits)
	return v
}

// cloneProof shares nothing with a proof.
func cloneProof(p verdict.Proof) verdict.Proof {
	var c verdict.Proof
	for _, set := range p.Sets {
		c.Sets = append(c.Sets, slices.Clone(set))
	}
	for _, l := range p.Leads {
		c.Leads = append(c.Leads, slices.Clone(l))
	}
	return c
}

// parts are ways to put something into each part of a verdict, into a list also one that is all 0.
func parts() map[string][]func(v *verdict.Verdict) {
	return map[string][]func(v *verdict.Verdict){
		"Tree": {
			func(v *verdict.Verdict) { v.Tree = []int{0} },
			func(v *verdict.Verdict) { v.Tree = []int{mostProd, 0, 7} },
			func(v *verdict.Verdict) { v.Tree = many(mostSteps, 0) },
		},
		"Sure": {
			func(v *verdict.Verdict) { v.Sure = true },
		},
		"At": {
			func(v *verdict.Verdict) { v.At = 1 },
			func(v *verdict.Verdict) { v.At = mostPlace },
		},
		"Expect": {
			func(v *verdict.Verdict) { v.Expect = 1 },
			func(v *verdict.Verdict) { v.Expect = 1 << 16 },
			func(v *verdict.Verdict) { v.Expect = mostExpect },
		},
		"Edits": {
			func(v *verdict.Verdict) { v.Edits = []api.Edit{{}} },
			func(v *verdict.Verdict) { v.Edits = []api.Edit{{At: 3, Drop: true}} },
			func(v *verdict.Verdict) { v.Edits = many(mostEdits, api.Edit{}) },
		},
	}
}

// owns are the parts that are of each Kind.
func owns() map[int][]string {
	return map[int][]string{
		1: {"Tree", "Sure"},
		2: {"At", "Expect"},
		3: {"At", "Expect", "Edits", "Tree"},
		4: {},
	}
}

// P20.1: the kinds are numbers from 1 on, in the chapter's order.
func TestKinds(t *testing.T) {
	if verdict.Accept != 1 || verdict.Reject != 2 || verdict.Mended != 3 || verdict.Limit != 4 {
		t.Errorf("%v", kinds)
	}
}

// P20.1: May at each Kind, and at numbers that are none.
func TestMayKind(t *testing.T) {
	for name, kind := range kinds {
		verdicts.says(t, name, verdict.Verdict{Kind: kind}, true)
		verdicts.says(t, name+", of empty lists", verdict.Verdict{Kind: kind, Tree: []int{}, Edits: []api.Edit{}}, true)
		verdicts.says(t, name+", of lists with room behind", verdict.Verdict{Kind: kind, Tree: many(9, 1)[:0], Edits: many(9, api.Edit{At: 1})[:0]}, true)
	}
	for _, kind := range []int{lowest, lowest + 1, -4, -3, -2, -1, 0, 5, 6, 255, 256, 257, 258, 1<<32 + 1, 1<<32 + 2, highest - 1, highest} {
		verdicts.says(t, "no kind", verdict.Verdict{Kind: kind}, false)
		verdicts.says(t, "no kind, of empty lists", verdict.Verdict{Kind: kind, Tree: []int{}, Edits: []api.Edit{}}, false)
		for part, ways := range parts() {
			for _, put := range ways {
				v := verdict.Verdict{Kind: kind}
				put(&v)
				verdicts.says(t, "no kind, "+part, v, false)
			}
		}
	}
}

// P20.1: May of each Kind with something in each part, alone: just what is of its Kind may have something.
func TestMayOwn(t *testing.T) {
	for name, kind := range kinds {
		for part, ways := range parts() {
			for _, put := range ways {
				v := verdict.Verdict{Kind: kind}
				put(&v)
				verdicts.says(t, name+", "+part, v, slices.Contains(owns()[kind], part))
			}
		}
	}
}

// P20.1: May of each Kind with something in any parts at once: it may be just if all of them are of its Kind.
func TestMayOwnTogether(t *testing.T) {
	names := []string{"At", "Edits", "Expect", "Sure", "Tree"}
	for kind, own := range owns() {
		for bits := range 1 << len(names) {
			v, want := verdict.Verdict{Kind: kind}, true
			for i, part := range names {
				if bits>>i&1 == 1 {
					parts()[part][0](&v)
					want = want && slices.Contains(own, part)
				}
			}
			verdicts.says(t, "together", v, want)
		}
	}
}

// fulls are verdicts in which each part that is of their Kind is as great as may be.
func fulls() map[string]verdict.Verdict {
	full := verdict.Verdict{At: mostPlace, Expect: mostExpect, Tree: many(mostSteps, mostProd), Edits: many(mostEdits, api.Edit{At: mostPlace, Drop: true, Tok: mostTok})}
	return map[string]verdict.Verdict{
		"Accept": {Kind: verdict.Accept, Tree: full.Tree, Sure: true},
		"Reject": {Kind: verdict.Reject, At: full.At, Expect: full.Expect},
		"Mended": {Kind: verdict.Mended, Tree: full.Tree, At: full.At, Expect: full.Expect, Edits: full.Edits},
		"Limit":  {Kind: verdict.Limit},
	}
}

// bounded are verdicts in which one part is at a bound: those that may be, and those in which it is beyond, so that they may not be for that alone.
func bounded() (may, not map[string]verdict.Verdict) {
	may, not = fulls(), map[string]verdict.Verdict{}
	for _, name := range []string{"Reject", "Mended"} {
		boundedAt(name, kinds[name], may, not)
		boundedExpect(name, kinds[name], may, not)
	}
	for _, name := range []string{"Accept", "Mended"} {
		boundedTree(name, kinds[name], may, not)
	}
	boundedEdits(may, not)
	return may, not
}

func boundedAt(name string, kind int, may, not map[string]verdict.Verdict) {
	good, bad := around(mostPlace)
	for _, at := range good {
		may[fmt.Sprint(name, ", At ", at)] = verdict.Verdict{Kind: kind, At: at}
	}
	for _, at := range bad {
		not[fmt.Sprint(name, ", At ", at)] = verdict.Verdict{Kind: kind, At: at}
		full := fulls()[name]
		full.At = at
		not[fmt.Sprint(name, ", full, At ", at)] = full
	}
}

func boundedExpect(name string, kind int, may, not map[string]verdict.Verdict) {
	for bit := range 32 {
		one := verdict.Verdict{Kind: kind, Expect: 1 << bit}
		full := fulls()[name]
		full.Expect |= 1 << bit
		if bit <= 16 {
			may[fmt.Sprint(name, ", bit ", bit)] = one
			continue
		}
		not[fmt.Sprint(name, ", bit ", bit)] = one
		not[fmt.Sprint(name, ", full, bit ", bit)] = full
	}
	may[name+", no bits"] = verdict.Verdict{Kind: kind}
	may[name+", all bits"] = verdict.Verdict{Kind: kind, Expect: 1<<17 - 1}
	not[name+", all bits there are"] = verdict.Verdict{Kind: kind, Expect: math.MaxUint32}
	not[name+", all bits but the least"] = verdict.Verdict{Kind: kind, Expect: math.MaxUint32 &^ mostExpect}
}

func boundedTree(name string, kind int, may, not map[string]verdict.Verdict) {
	for tree, l := range treesMay() {
		may[name+", Tree "+tree] = verdict.Verdict{Kind: kind, Tree: l}
	}
	for tree, l := range treesNot() {
		not[name+", Tree "+tree] = verdict.Verdict{Kind: kind, Tree: l}
		full := fulls()[name]
		full.Tree = l
		not[name+", full, Tree "+tree] = full
	}
}

// treesMay are derivations that may be: each bound is just met.
func treesMay() map[string][]int {
	l := map[string][]int{
		"nil":            nil,
		"empty":          {},
		"one":            {0},
		"the greatest":   {mostProd},
		"one fewer":      many(mostSteps-1, mostProd),
		"as many":        up(mostSteps, mostProd),
		"all 0":          make([]int, mostSteps),
		"room behind it": up(mostSteps+40, mostProd)[:mostSteps],
	}
	good, _ := around(mostProd)
	for _, at := range ends(5) {
		for _, n := range good {
			l[fmt.Sprint(n, " at ", at, " of 5")] = with(many(5, 1), at, n)
		}
	}
	for _, at := range ends(mostSteps) {
		l[fmt.Sprint("the greatest at ", at)] = with(make([]int, mostSteps), at, mostProd)
	}
	return l
}

// treesNot are derivations that may not be, each for one reason.
func treesNot() map[string][]int {
	l := map[string][]int{
		"one more":                   up(mostSteps+1, mostProd),
		"one more, all 0":            make([]int, mostSteps+1),
		"far more":                   make([]int, 1<<16+1),
		"one more, as a byte it's 0": make([]int, 2048),
	}
	_, bad := around(mostProd)
	for _, n := range bad {
		l[fmt.Sprint(n, " alone")] = []int{n}
		for _, at := range ends(5) {
			l[fmt.Sprint(n, " at ", at, " of 5")] = with(many(5, 1), at, n)
		}
		for _, at := range ends(mostSteps) {
			l[fmt.Sprint(n, " at ", at, " of all")] = with(make([]int, mostSteps), at, n)
		}
	}
	return l
}

func boundedEdits(may, not map[string]verdict.Verdict) {
	mended := func(l []api.Edit) verdict.Verdict { return verdict.Verdict{Kind: verdict.Mended, Edits: l} }
	for _, size := range []int{0, 1, 2, mostEdits - 1, mostEdits} {
		may[fmt.Sprint(size, " Edits")] = mended(make([]api.Edit, size))
	}
	for _, size := range []int{mostEdits + 1, mostEdits + 2, 128, 256, 5000} {
		not[fmt.Sprint(size, " Edits")] = mended(make([]api.Edit, size))
	}
	for _, size := range []int{1, 3, mostEdits} {
		for _, at := range ends(size) {
			for name, e := range editsMay() {
				may[fmt.Sprint(name, " at ", at, " of ", size)] = mended(with(many(size, api.Edit{At: 2, Tok: 3}), at, e))
			}
			for name, e := range editsNot() {
				not[fmt.Sprint(name, " at ", at, " of ", size)] = mended(with(many(size, api.Edit{At: 2, Tok: 3}), at, e))
			}
		}
	}
}

// editsMay are edits that may be: each bound is just met, and nothing else is asked of them (a drop with a token, too).
func editsMay() map[string]api.Edit {
	l := map[string]api.Edit{}
	ats, _ := around(mostPlace)
	toks, _ := around(mostTok)
	for _, drop := range []bool{false, true} {
		for _, at := range ats {
			for _, tok := range toks {
				l[fmt.Sprint("Edit ", at, drop, tok)] = api.Edit{At: at, Drop: drop, Tok: tok}
			}
		}
	}
	return l
}

// editsNot are edits that may not be, for one of their numbers alone.
func editsNot() map[string]api.Edit {
	l := map[string]api.Edit{}
	_, ats := around(mostPlace)
	_, toks := around(mostTok)
	for _, drop := range []bool{false, true} {
		for _, at := range ats {
			l[fmt.Sprint("Edit's At ", at, drop)] = api.Edit{At: at, Drop: drop}
		}
		for _, tok := range toks {
			l[fmt.Sprint("Edit's Tok ", tok, drop)] = api.Edit{At: mostPlace, Drop: drop, Tok: tok}
		}
	}
	return l
}

// P20.1: May at each bound, just met, and just passed.
func TestMayBounds(t *testing.T) {
	may, not := bounded()
	for name, v := range may {
		verdicts.says(t, name, v, true)
	}
	for name, v := range not {
		verdicts.says(t, name, v, false)
	}
	if len(may) < 300 || len(not) < 500 {
		t.Errorf("%d, %d: too few to show anything", len(may), len(not))
	}
}

// P20.1: what hangs together by other chapters alone isn't asked: edits of a word, a place and what is next there, a tree and a grammar.
func TestMayAsksNoMore(t *testing.T) {
	for name, v := range map[string]verdict.Verdict{
		"edits that fall":        {Kind: verdict.Mended, Edits: []api.Edit{{At: 5}, {At: 2}}},
		"dropped twice":          {Kind: verdict.Mended, Edits: []api.Edit{{At: 5, Drop: true}, {At: 5, Drop: true}}},
		"dropped at the end":     {Kind: verdict.Mended, Edits: []api.Edit{{At: mostPlace, Drop: true}}},
		"dropped, with a token":  {Kind: verdict.Mended, Edits: []api.Edit{{At: 1, Drop: true, Tok: 9}}},
		"edits ahead of At":      {Kind: verdict.Mended, At: 5, Edits: []api.Edit{{At: 2}}},
		"no edits, and no tree":  {Kind: verdict.Mended, At: 5, Expect: 1},
		"nothing is next":        {Kind: verdict.Reject, At: 5},
		"the end is next":        {Kind: verdict.Reject, Expect: 1 << 16},
		"sure of no tree":        {Kind: verdict.Accept, Sure: true},
		"not sure of no tree":    {Kind: verdict.Accept},
		"any rows of numbers":    {Kind: verdict.Accept, Tree: []int{59, 0, 59, 3, 3, 3}},
		"edits without anything": {Kind: verdict.Mended, Edits: []api.Edit{{}, {}}},
	} {
		verdicts.says(t, name, v, true)
	}
}
