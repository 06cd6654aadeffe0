package verdict_test

import (
	"math/rand"
	"slices"
	"testing"

	"probate/api"
	"probate/verdict"
)

// size is how many there are in a list: few mostly, none at times, or as many as may be.
func size(r *rand.Rand, most int) int {
	switch r.Intn(20) {
	case 0:
		return most
	case 1:
		return r.Intn(most + 1)
	}
	return r.Intn(min(most, 4) + 1)
}

// number is from 0 to most, at a bound often.
func number(r *rand.Rand, most int) int {
	switch r.Intn(6) {
	case 0:
		return 0
	case 1:
		return most
	}
	return r.Intn(most + 1)
}

func anyTree(r *rand.Rand) []int {
	l := make([]int, size(r, mostSteps))
	for i := range l {
		l[i] = number(r, mostProd)
	}
	return l
}

// anyVerdict is one that may be.
func anyVerdict(r *rand.Rand) verdict.Verdict {
	v := verdict.Verdict{Kind: 1 + r.Intn(4)}
	if v.Kind == verdict.Accept || v.Kind == verdict.Mended {
		v.Tree = anyTree(r)
	}
	if v.Kind == verdict.Reject || v.Kind == verdict.Mended {
		v.At, v.Expect = number(r, mostPlace), uint32(number(r, mostExpect))
	}
	if v.Kind == verdict.Mended {
		for range size(r, mostEdits) {
			v.Edits = append(v.Edits, api.Edit{At: number(r, mostPlace), Drop: r.Intn(2) == 0, Tok: number(r, mostTok)})
		}
	}
	v.Sure = v.Kind == verdict.Accept && r.Intn(2) == 0
	return v
}

// anyProof is one that may be.
func anyProof(r *rand.Rand) verdict.Proof {
	var p verdict.Proof
	for range size(r, mostSets) {
		set := make([]api.Item, size(r, mostItems))
		for i := range set {
			set[i] = api.Item{Prod: number(r, mostProd), Dot: number(r, mostDot), From: number(r, mostPlace)}
		}
		p.Sets = append(p.Sets, set)
	}
	for range size(r, mostLeads) {
		p.Leads = append(p.Leads, anyTree(r))
	}
	return p
}

// P20.3: verdicts and proofs at random, that may be, come back from their bytes; and unlike ones have unlike bytes.
func TestComeBack(t *testing.T) {
	r := rand.New(rand.NewSource(202))
	ofVerdicts, ofProofs := map[string]string{}, map[string]string{}
	for range 4000 {
		v := anyVerdict(r)
		verdicts.says(t, "at random", v, true)
		verdicts.comes(t, "at random", v)
		unlike(t, ofVerdicts, put(numbersOf(v)), text(v))
	}
	for range 800 {
		p := anyProof(r)
		proofs.says(t, "at random", p, true)
		proofs.comes(t, "at random", p)
		unlike(t, ofProofs, put(numbersOfProof(p)), text(p))
	}
	if len(ofVerdicts) < 2000 || len(ofProofs) < 600 {
		t.Errorf("%d, %d: too few to show anything", len(ofVerdicts), len(ofProofs))
	}
}

// unlike holds that bytes are those of one alone.
func unlike(t *testing.T, known map[string]string, b []byte, of string) {
	t.Helper()
	if old, is := known[string(b)]; is && old != of {
		t.Errorf("%s are the bytes of %.300s, and of %.300s", short(b), old, of)
	}
	known[string(b)] = of
}

// holds holds what bytes are read as, as a verdict's and as a proof's, against what is worked out.
func holds(t *testing.T, b []byte, counts map[api.Errno]int) {
	t.Helper()
	verdicts.holds(t, b, counts)
	proofs.holds(t, b, counts)
}

// enough holds that each error was told often.
func enough(t *testing.T, counts map[api.Errno]int) {
	t.Helper()
	for _, e := range []api.Errno{api.OK, api.ErrForm, api.ErrShort, api.ErrLong, api.ErrBig} {
		if counts[e] < 100 {
			t.Errorf("%v: too few of %d to show anything", counts, e)
		}
	}
	if len(counts) != 5 {
		t.Errorf("%v: others, too", counts)
	}
}

// P20.2, P20.3: all bytes there are of up to seven, each one of few: what is read comes back, byte by byte, and what isn't goes wrong as is worked out.
func TestAllBytes(t *testing.T) {
	counts := map[api.Errno]int{}
	var each func(b []byte, few []byte, most int)
	each = func(b []byte, few []byte, most int) {
		if holds(t, b, counts); len(b) == most {
			return
		}
		for _, next := range few {
			each(append(b, next), few, most)
		}
	}
	each(nil, []byte{0, 1, 2, 3}, 8)
	each(nil, []byte{0, 1, 4, 5, 128}, 6)
	each(nil, []byte{0, 9, 16, 25, 26, 60, 255}, 4)
	enough(t, counts)
}

// P20.2, R1: bytes of verdicts and proofs, changed somewhere, cut, or with some between, go wrong as is worked out.
func TestChangedBytes(t *testing.T) {
	r := rand.New(rand.NewSource(203))
	counts := map[api.Errno]int{}
	for range 30000 {
		b := put(numbersOf(anyVerdict(r)))
		if r.Intn(2) == 0 {
			b = put(numbersOfProof(smallProof(r)))
		}
		for range r.Intn(3) {
			at := r.Intn(len(b) + 1)
			switch r.Intn(4) {
			case 0:
				b = b[:at]
			case 1:
				b = slices.Insert(b, at, byte(r.Intn(256)))
			case 2:
				b = slices.Insert(b, at, byte(r.Intn(5)))
			case 3:
				if at < len(b) {
					b[at] = byte(r.Intn(256))
				}
			}
		}
		holds(t, b, counts)
	}
	for range 30000 {
		b := make([]byte, r.Intn(12))
		for i := range b {
			b[i] = byte(r.Intn(256) >> r.Intn(8))
		}
		holds(t, b, counts)
	}
	enough(t, counts)
}
