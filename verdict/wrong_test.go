package verdict_test

import (
	"bytes"
	"math"
	"math/rand"
	"slices"
	"testing"

	"probate/api"
	"probate/verdict"
)

// odd is a number that may stand where the greatest is most, mostly; else any.
func odd(r *rand.Rand, most int) int {
	any := []int{-1, -2, lowest, lowest + 1, highest, highest - 1, most + 1, most + 2, -most, 1 << 31, -1 << 31, 1 << 32, 255, 256, 1 << 17, most + 1<<32}
	if r.Intn(25) == 0 {
		return any[r.Intn(len(any))]
	}
	return number(r, most)
}

// oddSize is how many there are in a list, seldom more than may be.
func oddSize(r *rand.Rand, most int) int {
	if r.Intn(25) == 0 {
		return most + 1 + r.Intn(3)
	}
	return size(r, min(most, 4+r.Intn(most)))
}

func oddTree(r *rand.Rand) []int {
	var l []int
	for range oddSize(r, mostSteps) % (10 + r.Intn(2*mostSteps)) {
		l = append(l, number(r, mostProd))
	}
	if len(l) > 0 {
		l[r.Intn(len(l))] = odd(r, mostProd)
	}
	return l
}

// oddVerdict is one that may be, or that may not, for any reasons.
func oddVerdict(r *rand.Rand) verdict.Verdict {
	v := anyVerdict(r)
	switch r.Intn(9) {
	case 0:
		v.Kind = odd(r, 4)
	case 1:
		v.Tree = oddTree(r)
	case 2:
		v.Sure = r.Intn(2) == 0
	case 3:
		v.At = odd(r, mostPlace)
	case 4:
		v.Expect = r.Uint32() >> r.Intn(32)
	case 5:
		v.Edits = make([]api.Edit, oddSize(r, mostEdits))
	}
	for i := range v.Edits {
		if r.Intn(8) == 0 {
			v.Edits[i] = api.Edit{At: odd(r, mostPlace), Drop: r.Intn(2) == 0, Tok: odd(r, mostTok)}
		}
	}
	return v
}

// oddProof is one that may be, or that may not, for any reasons.
func oddProof(r *rand.Rand) verdict.Proof {
	var p verdict.Proof
	for range oddSize(r, mostSets) {
		p.Sets = append(p.Sets, make([]api.Item, size(r, 5)))
	}
	if len(p.Sets) > 0 {
		set := make([]api.Item, oddSize(r, mostItems))
		for i := range set {
			set[i] = greatest
		}
		if len(set) > 0 {
			set[r.Intn(len(set))] = api.Item{Prod: odd(r, mostProd), Dot: odd(r, mostDot), From: odd(r, mostPlace)}
		}
		p.Sets[r.Intn(len(p.Sets))] = set
	}
	for range oddSize(r, mostLeads) {
		p.Leads = append(p.Leads, make([]int, size(r, 5)))
	}
	if len(p.Leads) > 0 {
		p.Leads[r.Intn(len(p.Leads))] = oddTree(r)
	}
	return p
}

// within tells whether each number may stand in its place.
func within(l []place) bool {
	return !slices.ContainsFunc(l, func(p place) bool { return p.n < 0 || p.n > p.most })
}

// P20.1, P20.2, R1 to R4: whatever is handed in, nothing panics, and all tell what is worked out.
func TestWhatever(t *testing.T) {
	r := rand.New(rand.NewSource(204))
	counts := map[bool]int{}
	for range 6000 {
		v := oddVerdict(r)
		is := formed(v) && within(numbersOf(v))
		verdicts.says(t, "any verdict", v, is)
		verdicts.same(t, "any verdict", v, clone(v), true)
		if counts[is]++; is {
			verdicts.comes(t, "any verdict", v)
		} else {
			verdicts.wrongs(t, "any verdict", v)
		}
	}
	for range 3000 {
		p := oddProof(r)
		is := within(numbersOfProof(p))
		proofs.says(t, "any proof", p, is)
		proofs.same(t, "any proof", p, cloneProof(p), true)
		if counts[is]++; is {
			proofs.comes(t, "any proof", p)
		} else {
			proofs.wrongs(t, "any proof", p)
		}
	}
	if counts[true] < 2000 || counts[false] < 2000 {
		t.Errorf("%v: too few to show anything", counts)
	}
}

// R1: all end soon, however much is handed in.
func TestMuch(t *testing.T) {
	huge := 1 << 20
	for _, v := range []verdict.Verdict{
		{Kind: verdict.Accept, Tree: make([]int, huge)},
		{Kind: verdict.Mended, Edits: make([]api.Edit, huge)},
		{Kind: lowest, Tree: many(huge, lowest), At: highest, Expect: math.MaxUint32, Edits: many(huge, api.Edit{At: lowest, Tok: highest})},
	} {
		if b, e := verdict.Bytes(v); verdict.May(v) || b != nil || e != api.ErrArg || !verdict.Same(v, clone(v)) {
			t.Errorf("Kind %d: %v, %s, %d", v.Kind, verdict.May(v), short(b), e)
		}
	}
	for i, p := range []verdict.Proof{
		{Sets: make([][]api.Item, huge)},
		{Leads: make([][]int, huge)},
		{Sets: [][]api.Item{make([]api.Item, huge)}, Leads: [][]int{make([]int, huge)}},
		{Sets: many(40, many(huge/40, api.Item{Prod: lowest})), Leads: many(40, many(huge/40, highest))},
	} {
		if b, e := verdict.Encode(p); verdict.Right(p) || b != nil || e != api.ErrArg || !verdict.Alike(p, cloneProof(p)) {
			t.Errorf("proof %d: %v, %s, %d", i, verdict.Right(p), short(b), e)
		}
	}
	for _, c := range []struct {
		b                byte
		ofVerdict, proof api.Errno
	}{
		{0, api.ErrLong, api.ErrLong}, {1, api.ErrLong, api.ErrLong}, {4, api.ErrBig, api.ErrLong}, {60, api.ErrBig, api.ErrBig}, {128, api.ErrLong, api.ErrLong}, {255, api.ErrLong, api.ErrLong},
	} {
		verdicts.fails(t, "much", many(huge, c.b), c.ofVerdict)
		proofs.fails(t, "much", many(huge, c.b), c.proof)
	}
}

// R3: what Read and Bytes answer shares nothing with what was handed in, nor two parts of it with each other.
func TestVerdictSharesNothing(t *testing.T) {
	v := verdict.Verdict{Kind: verdict.Mended, Tree: []int{1, 2, 3}, At: 4, Expect: 300, Edits: []api.Edit{{At: 5, Tok: 6}, {At: 7, Drop: true}}}
	old, want := text(v), put(numbersOf(v))
	for range 3 {
		b, e := verdict.Bytes(v)
		if !bytes.Equal(b, want) || e != api.OK {
			t.Fatalf("%v, %d, not %v", b, e, want)
		}
		back, e := verdict.Read(b)
		fill(b, 200)
		if text(back) != old || text(v) != old || e != api.OK {
			t.Fatalf("with its bytes changed: %s, %s, %d", text(back), text(v), e)
		}
		again, _ := verdict.Read(want)
		fill(back.Tree, -9)
		fill(back.Edits, api.Edit{At: -9, Drop: true, Tok: -9})
		if text(again) != old || text(v) != old || !bytes.Equal(want, put(numbersOf(v))) {
			t.Fatalf("with another answer changed: %s, %s, %v", text(again), text(v), want)
		}
	}
	b, _ := verdict.Bytes(v)
	fill(v.Tree, 0)
	fill(v.Edits, api.Edit{})
	if !bytes.Equal(b, want) {
		t.Errorf("with the verdict changed: %v, not %v", b, want)
	}
}

// fill writes over a list, and over the room behind it, too.
func fill[T any](l []T, one T) {
	l = l[:cap(l)]
	for i := range l {
		l[i] = one
	}
}

// R3: and so it is of Encode and Decode, each set and each lead by itself.
func TestProofSharesNothing(t *testing.T) {
	p := verdict.Proof{Sets: [][]api.Item{{{Prod: 1, Dot: 2, From: 3}, {Prod: 4}}, {}, {{From: 5}}}, Leads: [][]int{{1, 2, 3}, {}, {4, 5}}}
	old, want := text(p), put(numbersOfProof(p))
	for set := range p.Sets {
		b, e := verdict.Encode(p)
		if !bytes.Equal(b, want) || e != api.OK {
			t.Fatalf("%v, %d, not %v", b, e, want)
		}
		back, e := verdict.Decode(b)
		fill(b, 200)
		if text(back) != old || text(p) != old || e != api.OK {
			t.Fatalf("with its bytes changed: %s, %s, %d", text(back), text(p), e)
		}
		still := cloneProof(back)
		fill(back.Sets[set], api.Item{Prod: -9})
		fill(back.Leads[set], -9)
		still.Sets[set], still.Leads[set] = back.Sets[set], back.Leads[set]
		if text(back) != text(still) || text(p) != old {
			t.Fatalf("with set and lead %d changed: %s, %s", set, text(back), text(p))
		}
		again, _ := verdict.Decode(want)
		fill(back.Sets, []api.Item{greatest})
		fill(back.Leads, []int{-9})
		if text(again) != old || text(p) != old || !bytes.Equal(want, put(numbersOfProof(p))) {
			t.Fatalf("with another answer changed: %s, %s, %v", text(again), text(p), want)
		}
	}
	b, _ := verdict.Encode(p)
	fill(p.Sets[0], api.Item{})
	fill(p.Leads[0], 0)
	if !bytes.Equal(b, want) {
		t.Errorf("with the proof changed: %v, not %v", b, want)
	}
}

// R3: what stands behind a list, or behind bytes, in the same memory, is neither asked nor changed.
func TestRoomBehind(t *testing.T) {
	tree, edits := many(9, 1), many(9, api.Edit{At: 1})
	v := verdict.Verdict{Kind: verdict.Mended, Tree: tree[:3], Edits: edits[:2]}
	fill(tree[3:], 99)
	fill(edits[2:], api.Edit{At: -1})
	verdicts.tells(t, "room behind", v, []byte{3, 3, 1, 1, 1, 0, 0, 0, 2, 1, 0, 0, 1, 0, 0})
	if !slices.Equal(tree[3:], many(6, 99)) || !slices.Equal(edits[2:], many(7, api.Edit{At: -1})) {
		t.Errorf("%v, %v", tree, edits)
	}
	sets, leads := many(5, []api.Item{{Prod: 1}}), many(5, []int{1})
	p := verdict.Proof{Sets: sets[:1], Leads: leads[:1]}
	fill(sets[1:], []api.Item{{Prod: -1}})
	fill(leads[1:], []int{-1})
	proofs.tells(t, "room behind", p, []byte{1, 1, 1, 0, 0, 1, 1, 1})
	all := []byte{4, 0, 0, 0, 0, 0, 7, 7, 7, 7}
	verdicts.reads(t, "room behind", all[:6], verdict.Verdict{Kind: verdict.Limit}, api.OK)
	verdicts.fails(t, "room behind", all[:5], api.ErrShort)
	if !bytes.Equal(all, []byte{4, 0, 0, 0, 0, 0, 7, 7, 7, 7}) {
		t.Errorf("%v", all)
	}
}

// R4, R5: what is told hangs on what is handed in alone, whatever went wrong in between.
func TestNothingIsKept(t *testing.T) {
	v := verdict.Verdict{Kind: verdict.Accept, Tree: []int{3, 4}, Sure: true}
	p := verdict.Proof{Sets: [][]api.Item{{{Prod: 1}}}, Leads: [][]int{{2}}}
	for range 3 {
		verdicts.tells(t, "first", v, []byte{1, 2, 3, 4, 1, 0, 0, 0})
		v.Tree[1] = 60
		verdicts.says(t, "changed", v, false)
		verdicts.wrongs(t, "changed", v)
		verdicts.fails(t, "changed", []byte{1, 2, 3, 60, 1, 0, 0, 0}, api.ErrBig)
		v.Tree[1] = 4
		proofs.tells(t, "first", p, []byte{1, 1, 1, 0, 0, 1, 1, 2})
		p.Leads[0][0] = -1
		proofs.says(t, "changed", p, false)
		proofs.fails(t, "changed", []byte{1, 1, 1, 0, 0, 1, 1, 60}, api.ErrBig)
		p.Leads[0][0] = 2
		verdicts.says(t, "as it was", v, true)
		proofs.says(t, "as it was", p, true)
	}
}
