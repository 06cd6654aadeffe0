package verdict_test

import (
	"slices"
	"testing"

	"probate/api"
	"probate/verdict"
)

// P20.2: a verdict's bytes, part by part, as the chapter tells them.
func TestBytes(t *testing.T) {
	for name, c := range map[string]struct {
		v verdict.Verdict
		b []byte
	}{
		"the chapter's":   {verdict.Verdict{Kind: verdict.Reject, At: 2, Expect: 3}, []byte{2, 0, 0, 2, 3, 0}},
		"Accept":          {verdict.Verdict{Kind: verdict.Accept}, []byte{1, 0, 0, 0, 0, 0}},
		"Accept, sure":    {verdict.Verdict{Kind: verdict.Accept, Sure: true}, []byte{1, 0, 1, 0, 0, 0}},
		"Accept, empty":   {verdict.Verdict{Kind: verdict.Accept, Tree: []int{}, Edits: []api.Edit{}}, []byte{1, 0, 0, 0, 0, 0}},
		"a tree":          {verdict.Verdict{Kind: verdict.Accept, Tree: []int{5, 0, 59}}, []byte{1, 3, 5, 0, 59, 0, 0, 0, 0}},
		"a tree, sure":    {verdict.Verdict{Kind: verdict.Accept, Tree: []int{7}, Sure: true}, []byte{1, 1, 7, 1, 0, 0, 0}},
		"Reject":          {verdict.Verdict{Kind: verdict.Reject}, []byte{2, 0, 0, 0, 0, 0}},
		"At":              {verdict.Verdict{Kind: verdict.Reject, At: 24}, []byte{2, 0, 0, 24, 0, 0}},
		"Expect of a":     {verdict.Verdict{Kind: verdict.Reject, Expect: 1}, []byte{2, 0, 0, 0, 1, 0}},
		"Expect of h":     {verdict.Verdict{Kind: verdict.Reject, Expect: 1 << 7}, []byte{2, 0, 0, 0, 128, 1, 0}},
		"Expect of 300":   {verdict.Verdict{Kind: verdict.Reject, Expect: 300}, []byte{2, 0, 0, 0, 172, 2, 0}},
		"the end is next": {verdict.Verdict{Kind: verdict.Reject, At: 1, Expect: 1 << 16}, []byte{2, 0, 0, 1, 128, 128, 4, 0}},
		"all is next":     {verdict.Verdict{Kind: verdict.Reject, At: 1, Expect: 1<<17 - 1}, []byte{2, 0, 0, 1, 255, 255, 7, 0}},
		"Mended":          {verdict.Verdict{Kind: verdict.Mended}, []byte{3, 0, 0, 0, 0, 0}},
		"an edit of 0":    {verdict.Verdict{Kind: verdict.Mended, Edits: []api.Edit{{}}}, []byte{3, 0, 0, 0, 0, 1, 0, 0, 0}},
		"two edits":       {verdict.Verdict{Kind: verdict.Mended, Edits: []api.Edit{{At: 3, Tok: 15}, {At: 24, Drop: true}}}, []byte{3, 0, 0, 0, 0, 2, 3, 0, 15, 24, 1, 0}},
		"all of Mended":   {verdict.Verdict{Kind: verdict.Mended, Tree: []int{4, 2}, At: 3, Expect: 130, Edits: []api.Edit{{At: 3, Drop: true, Tok: 9}}}, []byte{3, 2, 4, 2, 0, 3, 130, 1, 1, 3, 1, 9}},
		"Limit":           {verdict.Verdict{Kind: verdict.Limit}, []byte{4, 0, 0, 0, 0, 0}},
		"a tree of 128":   {verdict.Verdict{Kind: verdict.Accept, Tree: many(128, 2)}, slices.Concat([]byte{1, 128, 1}, many(128, byte(2)), make([]byte, 4))},
		"a tree of all":   {verdict.Verdict{Kind: verdict.Accept, Tree: many(mostSteps, 59), Sure: true}, slices.Concat([]byte{1, 208, 15}, many(mostSteps, byte(59)), []byte{1, 0, 0, 0})},
		"100 edits":       {verdict.Verdict{Kind: verdict.Mended, Edits: many(100, api.Edit{At: 1, Drop: true, Tok: 2})}, slices.Concat([]byte{3, 0, 0, 0, 0, 100}, slices.Repeat([]byte{1, 1, 2}, 100))},
	} {
		verdicts.tells(t, name, c.v, c.b)
	}
}

// P20.2: a proof's bytes, part by part, as the chapter tells them.
func TestEncode(t *testing.T) {
	for name, c := range map[string]struct {
		p verdict.Proof
		b []byte
	}{
		"nothing":          {verdict.Proof{}, []byte{0, 0}},
		"empty lists":      {verdict.Proof{Sets: [][]api.Item{}, Leads: [][]int{}}, []byte{0, 0}},
		"an empty set":     {setsOf(nil), []byte{1, 0, 0}},
		"an empty lead":    {leadsOf(nil), []byte{0, 1, 0}},
		"empty ones":       {verdict.Proof{Sets: [][]api.Item{{}, nil}, Leads: [][]int{nil, {}, nil}}, []byte{2, 0, 0, 3, 0, 0, 0}},
		"an item":          {setsOf([]api.Item{{Prod: 59, Dot: 8, From: 24}}), []byte{1, 1, 59, 8, 24, 0}},
		"an item of 0":     {setsOf([]api.Item{{}}), []byte{1, 1, 0, 0, 0, 0}},
		"two sets":         {setsOf([]api.Item{{Prod: 1, Dot: 2, From: 3}, {Prod: 4, Dot: 5, From: 6}}, nil, []api.Item{{Prod: 7}}), []byte{3, 2, 1, 2, 3, 4, 5, 6, 0, 1, 7, 0, 0, 0}},
		"a lead":           {leadsOf([]int{3, 0, 59}), []byte{0, 1, 3, 3, 0, 59}},
		"two leads":        {leadsOf([]int{3}, nil, []int{1, 2}), []byte{0, 3, 1, 3, 0, 2, 1, 2}},
		"sets, and leads":  {verdict.Proof{Sets: [][]api.Item{{{Prod: 9, Dot: 1, From: 2}}}, Leads: [][]int{{8, 7}}}, []byte{1, 1, 9, 1, 2, 1, 2, 8, 7}},
		"a set of 128":     {setsOf(many(128, api.Item{Prod: 1, Dot: 2, From: 3})), slices.Concat([]byte{1, 128, 1}, slices.Repeat([]byte{1, 2, 3}, 128), []byte{0})},
		"a set of all":     {setsOf(nil, many(1500, api.Item{Prod: 1})), slices.Concat([]byte{2, 0, 220, 11}, slices.Repeat([]byte{1, 0, 0}, 1500), []byte{0})},
		"a lead of all":    {leadsOf(nil, many(mostSteps, 5)), slices.Concat([]byte{0, 2, 0, 208, 15}, many(mostSteps, byte(5)))},
		"25 sets":          {setsOf(make([][]api.Item, 25)...), append([]byte{25}, make([]byte, 26)...)},
		"17 leads":         {leadsOf(many(17, []int{6})...), append([]byte{0, 17}, slices.Repeat([]byte{1, 6}, 17)...)},
		"as great as ever": {fullProof(), fullBytes()},
	} {
		proofs.tells(t, name, c.p, c.b)
	}
}

// fullBytes are those of the greatest proof.
func fullBytes() []byte {
	set := append([]byte{220, 11}, slices.Repeat([]byte{59, 8, 24}, 1500)...)
	lead := append([]byte{208, 15}, many(2000, byte(59))...)
	return slices.Concat([]byte{25}, slices.Repeat(set, 25), []byte{17}, slices.Repeat(lead, 17))
}

// P20.2, P20.3: of each that may be the bytes are those that are worked out, and it comes back; of each that may not be there are none (R2).
func TestBytesBounds(t *testing.T) {
	may, not := bounded()
	for name, v := range may {
		verdicts.comes(t, name, v)
	}
	for name, v := range not {
		verdicts.wrongs(t, name, v)
	}
	for _, kind := range []int{lowest, -1, 0, 5, highest} {
		verdicts.wrongs(t, "no kind", verdict.Verdict{Kind: kind})
	}
	for name, kind := range kinds {
		for part, ways := range parts() {
			for _, fill := range ways {
				v := verdict.Verdict{Kind: kind}
				fill(&v)
				if slices.Contains(owns()[kind], part) {
					verdicts.comes(t, name+", "+part, v)
				} else {
					verdicts.wrongs(t, name+", "+part, v)
				}
			}
		}
	}
}

// P20.2, P20.3: and so it is of proofs.
func TestEncodeBounds(t *testing.T) {
	may, not := boundedProofs()
	for name, p := range may {
		proofs.comes(t, name, p)
	}
	for name, p := range not {
		proofs.wrongs(t, name, p)
	}
}
