package verdict_test

import (
	"fmt"
	"math"
	"math/rand"
	"slices"
	"testing"

	"probate/api"
	"probate/verdict"
)

// numbers are lists that differ from this one in one way each: shorter, longer, of another number, in another order.
func numbers(l []int) map[string][]int {
	others := map[string][]int{
		"without the first": l[1:],
		"without the last":  l[:len(l)-1],
		"none":              nil,
		"0 more":            append(slices.Clone(l), 0),
		"0 ahead":           append([]int{0}, l...),
		"twice":             slices.Concat(l, l),
	}
	for at, n := range l {
		for _, other := range []int{n + 1, n - 1, -1, n + 256, n + 1<<32, lowest, highest} {
			others[fmt.Sprint(other, " at ", at)] = with(l, at, other)
		}
	}
	back := slices.Clone(l)
	slices.Reverse(back)
	others["the other way round"] = back
	return others
}

// lists are such lists of what isn't a number; of another one in each of its fields there are others.
func lists[T any](l []T, others func(one T) map[string]T) map[string][]T {
	var zero T
	made := map[string][]T{
		"without the first": l[1:],
		"without the last":  l[:len(l)-1],
		"none":              nil,
		"a zero one more":   append(slices.Clone(l), zero),
		"a zero one ahead":  append([]T{zero}, l...),
		"the last one more": append(slices.Clone(l), l[len(l)-1]),
	}
	for at, one := range l {
		for name, other := range others(one) {
			made[fmt.Sprint(name, " at ", at)] = with(l, at, other)
		}
	}
	back := slices.Clone(l)
	slices.Reverse(back)
	made["the other way round"] = back
	return made
}

func otherEdits(e api.Edit) map[string]api.Edit {
	return map[string]api.Edit{
		"At":   {At: e.At + 1, Drop: e.Drop, Tok: e.Tok},
		"Drop": {At: e.At, Drop: !e.Drop, Tok: e.Tok},
		"Tok":  {At: e.At, Drop: e.Drop, Tok: e.Tok - 1},
	}
}

func otherItems(it api.Item) map[string]api.Item {
	return map[string]api.Item{
		"Prod": {Prod: it.Prod + 1, Dot: it.Dot, From: it.From},
		"Dot":  {Prod: it.Prod, Dot: it.Dot + 1, From: it.From},
		"From": {Prod: it.Prod, Dot: it.Dot, From: it.From - 1},
	}
}

// others are verdicts that differ from this one in just one part.
func others(v verdict.Verdict) map[string]verdict.Verdict {
	l := map[string]verdict.Verdict{}
	add := func(name string, change func(v *verdict.Verdict)) {
		other := clone(v)
		change(&other)
		l[name] = other
	}
	for _, by := range []int{1, -1, 4, 256, 1 << 32} {
		add(fmt.Sprint("Kind, by ", by), func(v *verdict.Verdict) { v.Kind += by })
		add(fmt.Sprint("At, by ", by), func(v *verdict.Verdict) { v.At += by })
	}
	for bit := range 32 {
		add(fmt.Sprint("Expect, bit ", bit), func(v *verdict.Verdict) { v.Expect ^= 1 << bit })
	}
	add("Sure", func(v *verdict.Verdict) { v.Sure = !v.Sure })
	for name, tree := range numbers(v.Tree) {
		add("Tree, "+name, func(v *verdict.Verdict) { v.Tree = tree })
	}
	for name, edits := range lists(v.Edits, otherEdits) {
		add("Edits, "+name, func(v *verdict.Verdict) { v.Edits = edits })
	}
	return l
}

// P20.1: Same of two that differ in just one part, whether they may be or not.
func TestSame(t *testing.T) {
	edits := []api.Edit{{At: 1, Tok: 2}, {At: 3, Drop: true}, {At: 3, Tok: 4}}
	for _, v := range []verdict.Verdict{
		{Kind: verdict.Mended, Tree: []int{1, 2, 3}, At: 4, Expect: 5, Edits: edits},
		{Kind: verdict.Accept, Tree: []int{1, 0}, Sure: true, At: 2, Expect: 1, Edits: edits[:1]},
		{Kind: -7, Tree: []int{highest, lowest, -3}, Sure: true, At: -9, Expect: math.MaxUint32, Edits: []api.Edit{{At: -1, Drop: true, Tok: 99}, {At: lowest, Tok: highest}}},
		{Tree: []int{5}, Edits: []api.Edit{{At: 1}}},
	} {
		verdicts.same(t, "itself", v, v, true)
		verdicts.same(t, "a copy", v, clone(v), true)
		for name, other := range others(v) {
			if text(other) != text(v) { // a list of one is the same the other way round
				verdicts.same(t, name, v, other, false)
			}
		}
	}
	for name, v := range fulls() {
		verdicts.same(t, name, v, clone(v), true)
		for other := range fulls() {
			verdicts.same(t, name+", "+other, v, fulls()[other], name == other)
		}
		if len(v.Tree) > 0 {
			last := clone(v)
			last.Tree[mostSteps-1]--
			verdicts.same(t, name+", but the last", v, last, false)
		}
		if len(v.Edits) > 0 {
			last := clone(v)
			last.Edits[mostEdits-1].Tok--
			verdicts.same(t, name+", but the last edit", v, last, false)
		}
	}
}

// P20.1, R6: of a verdict, and of a proof, nil and an empty list are one, whatever room is behind.
func TestEmptyIsNone(t *testing.T) {
	for _, kind := range []int{-1, 0, 1, 2, 3, 4, 5} {
		for _, a := range [][]int{nil, {}, many(3, 7)[:0]} {
			for _, b := range [][]int{nil, {}, many(3, 8)[:0]} {
				verdicts.same(t, "Tree", verdict.Verdict{Kind: kind, Tree: a}, verdict.Verdict{Kind: kind, Tree: b}, true)
				proofs.same(t, "a lead", leadsOf(a), leadsOf(b), true)
				proofs.same(t, "leads", leadsOf([]int{1}, a), leadsOf([]int{1}, b), true)
			}
		}
		for _, a := range [][]api.Edit{nil, {}, many(3, api.Edit{At: 1})[:0]} {
			for _, b := range [][]api.Edit{nil, {}, many(3, api.Edit{At: 2})[:0]} {
				verdicts.same(t, "Edits", verdict.Verdict{Kind: kind, Edits: a}, verdict.Verdict{Kind: kind, Edits: b}, true)
			}
		}
	}
	for _, a := range [][]api.Item{nil, {}, many(3, greatest)[:0]} {
		for _, b := range [][]api.Item{nil, {}, many(3, api.Item{})[:0]} {
			proofs.same(t, "a set", setsOf(a), setsOf(b), true)
			proofs.same(t, "sets", setsOf([]api.Item{{}}, a), setsOf([]api.Item{{}}, b), true)
		}
	}
	for _, a := range [][][]api.Item{nil, {}, many(3, []api.Item{{}})[:0]} {
		for _, b := range [][][]int{nil, {}, many(3, []int{1})[:0]} {
			proofs.same(t, "no lists", verdict.Proof{Sets: a, Leads: b}, verdict.Proof{}, true)
		}
	}
}

// otherProofs are proofs that differ from this one in just one part.
func otherProofs(p verdict.Proof) map[string]verdict.Proof {
	l := map[string]verdict.Proof{}
	sets := lists(p.Sets, func(set []api.Item) map[string][]api.Item { return lists(set, otherItems) })
	for name, other := range sets {
		l["Sets, "+name] = verdict.Proof{Sets: other, Leads: p.Leads}
	}
	for name, other := range lists(p.Leads, numbers) {
		l["Leads, "+name] = verdict.Proof{Sets: p.Sets, Leads: other}
	}
	return l
}

// P20.1: Alike of two that differ in just one part, whether they may be or not.
func TestAlike(t *testing.T) {
	for _, p := range []verdict.Proof{
		{Sets: [][]api.Item{{{Prod: 1, Dot: 2, From: 3}, {Prod: 4}, {From: 5}}, {{Dot: 6}}}, Leads: [][]int{{1, 2, 3}, {4}}},
		{Sets: [][]api.Item{{{Prod: -1, Dot: 99, From: lowest}}, {{Prod: highest}}, {greatest, {}}}, Leads: [][]int{{-5}, {highest, lowest}, {0}}},
		{Sets: many(mostSets+2, []api.Item{{Prod: 1}}), Leads: many(mostLeads+2, []int{7})},
	} {
		proofs.same(t, "itself", p, p, true)
		proofs.same(t, "a copy", p, cloneProof(p), true)
		for name, other := range otherProofs(p) {
			if text(other) != text(p) {
				proofs.same(t, name, p, other, false)
			}
		}
	}
	full := fullProof()
	proofs.same(t, "full", full, fullProof(), true)
	last := fullProof()
	last.Sets[mostSets-1] = with(last.Sets[0], mostItems-1, api.Item{Prod: mostProd, Dot: mostDot, From: mostPlace - 1})
	proofs.same(t, "full, but the last item", full, last, false)
	last = fullProof()
	last.Leads[mostLeads-1] = with(last.Leads[0], mostSteps-1, 0)
	proofs.same(t, "full, but the last number", full, last, false)
}

// parted are all ways to part a list into so many lists, one behind the other.
func parted[T any](l []T, into int) [][][]T {
	if into == 1 {
		return [][][]T{{l}}
	}
	var ways [][][]T
	for at := range len(l) + 1 {
		for _, rest := range parted(l[at:], into-1) {
			ways = append(ways, append([][]T{l[:at]}, rest...))
		}
	}
	return ways
}

// P20.1: Alike of the same numbers, parted otherwise into sets, or leads.
func TestAlikeParted(t *testing.T) {
	items := []api.Item{{Prod: 1}, {Prod: 1}, {Dot: 1}}
	var sets, leads []verdict.Proof
	for into := 1; into <= 4; into++ {
		for _, l := range parted(items, into) {
			sets = append(sets, setsOf(l...))
		}
		for _, l := range parted([]int{1, 1, 0}, into) {
			leads = append(leads, leadsOf(l...))
		}
	}
	for i := range sets {
		for k := range sets {
			proofs.same(t, "sets", sets[i], sets[k], i == k)
			proofs.same(t, "leads", leads[i], leads[k], i == k)
			both := verdict.Proof{Sets: sets[i].Sets, Leads: leads[k].Leads}
			proofs.same(t, "both", both, verdict.Proof{Sets: sets[k].Sets, Leads: leads[i].Leads}, i == k)
		}
	}
	if len(sets) < 20 {
		t.Errorf("%d: too few to show anything", len(sets))
	}
}

// P20.1: Same and Alike of many at random are what their parts as text are.
func TestSameAtRandom(t *testing.T) {
	r := rand.New(rand.NewSource(201))
	ofVerdicts, ofProofs := 0, 0
	for range 100000 {
		a, b := smallVerdict(r), smallVerdict(r)
		verdicts.same(t, "at random", a, b, text(a) == text(b))
		p, q := smallProof(r), smallProof(r)
		proofs.same(t, "at random", p, q, text(p) == text(q))
		if text(a) == text(b) {
			ofVerdicts++
		}
		if text(p) == text(q) {
			ofProofs++
		}
	}
	if ofVerdicts < 300 || ofProofs < 300 {
		t.Errorf("%d, %d: too few to show anything", ofVerdicts, ofProofs)
	}
}

// smallVerdict is one of few, that may be or not.
func smallVerdict(r *rand.Rand) verdict.Verdict {
	v := verdict.Verdict{Kind: 1 + r.Intn(2), At: r.Intn(2), Expect: uint32(r.Intn(2)), Sure: r.Intn(2) == 0}
	for range r.Intn(3) {
		v.Tree = append(v.Tree, r.Intn(2))
	}
	for range r.Intn(2) {
		v.Edits = append(v.Edits, api.Edit{At: r.Intn(2), Drop: r.Intn(2) == 0})
	}
	return v
}

// smallProof is one of few.
func smallProof(r *rand.Rand) verdict.Proof {
	var p verdict.Proof
	for range r.Intn(3) {
		p.Sets = append(p.Sets, make([]api.Item, r.Intn(3)))
	}
	for range r.Intn(3) {
		var l []int
		for range r.Intn(2) {
			l = append(l, r.Intn(2))
		}
		p.Leads = append(p.Leads, l)
	}
	return p
}
