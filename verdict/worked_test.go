package verdict_test

import (
	"math/big"
	"slices"

	"probate/api"
	"probate/verdict"
)

// What follows works out bytes, and what goes wrong with them, from the chapters alone.

// place is a number of those that stand one behind the other in bytes: what it is of, itself, and the greatest that may stand there.
type place struct {
	of      string
	n, most int
}

// numbersOf are a verdict's, in their order.
func numbersOf(v verdict.Verdict) []place {
	l := []place{{"Kind", v.Kind, 4}}
	l = append(l, treeOf("Tree", v.Tree)...)
	l = append(l, place{"Sure", bit(v.Sure), 1}, place{"At", v.At, mostPlace}, place{"Expect", int(v.Expect), mostExpect}, place{"Edits", len(v.Edits), mostEdits})
	for _, e := range v.Edits {
		l = append(l, place{"an Edit's At", e.At, mostPlace}, place{"an Edit's Drop", bit(e.Drop), 1}, place{"an Edit's Tok", e.Tok, mostTok})
	}
	return l
}

func treeOf(name string, l []int) []place {
	all := []place{{name, len(l), mostSteps}}
	for _, n := range l {
		all = append(all, place{name + "'s number", n, mostProd})
	}
	return all
}

func bit(is bool) int {
	if is {
		return 1
	}
	return 0
}

// numbersOfProof are a proof's, in their order.
func numbersOfProof(p verdict.Proof) []place {
	l := []place{{"Sets", len(p.Sets), mostSets}}
	for _, set := range p.Sets {
		l = append(l, place{"a set", len(set), mostItems})
		for _, it := range set {
			l = append(l, place{"Prod", it.Prod, mostProd}, place{"Dot", it.Dot, mostDot}, place{"From", it.From, mostPlace})
		}
	}
	l = append(l, place{"Leads", len(p.Leads), mostLeads})
	for _, one := range p.Leads {
		l = append(l, treeOf("a lead", one)...)
	}
	return l
}

// one are a number's bytes: the rest of dividing by 128, and 128 more on all but the last one.
func one(n int) []byte {
	if n < 128 {
		return []byte{byte(n)}
	}
	return append([]byte{byte(n%128 + 128)}, one(n/128)...)
}

// put are the bytes of numbers, one behind the other.
func put(l []place) []byte {
	var b []byte
	for _, p := range l {
		b = append(b, one(p.n)...)
	}
	return b
}

// taken is what was taken from bytes: what is left of them, and what went wrong first.
type taken struct {
	rest []byte
	e    api.Errno
}

// num takes a number up to most.
func (k *taken) num(most int) int {
	if k.e != api.OK {
		return 0
	}
	last := slices.IndexFunc(k.rest, func(b byte) bool { return b < 128 })
	switch {
	case last < 0 && len(k.rest) < 10:
		k.e = api.ErrShort
	case last < 0 || last > 9 || last == 9 && k.rest[9] > 1:
		k.e = api.ErrLong
	case last > 0 && k.rest[last] == 0:
		k.e = api.ErrForm
	}
	if k.e != api.OK {
		return 0
	}
	n := new(big.Int)
	for at := last; at >= 0; at-- {
		n.Mul(n, big.NewInt(128))
		n.Add(n, big.NewInt(int64(k.rest[at]%128)))
	}
	k.rest = k.rest[last+1:]
	if n.Cmp(big.NewInt(int64(most))) > 0 {
		k.e = api.ErrBig
		return 0
	}
	return int(n.Int64())
}

func (k *taken) tree() []int {
	var l []int
	for range k.num(mostSteps) {
		if l = append(l, k.num(mostProd)); k.e != api.OK {
			return nil
		}
	}
	return l
}

// ended is what went wrong, be it that bytes are left.
func (k *taken) ended() api.Errno {
	if k.e == api.OK && len(k.rest) > 0 {
		return api.ErrLong
	}
	return k.e
}

// verdictOf is the verdict of bytes, or what goes wrong.
func verdictOf(b []byte) (verdict.Verdict, api.Errno) {
	k := &taken{rest: b}
	var v verdict.Verdict
	v.Kind = k.num(4)
	v.Tree = k.tree()
	v.Sure = k.num(1) == 1
	v.At = k.num(mostPlace)
	v.Expect = uint32(k.num(mostExpect))
	for range k.num(mostEdits) {
		at, drop, tok := k.num(mostPlace), k.num(1), k.num(mostTok)
		if v.Edits = append(v.Edits, api.Edit{At: at, Drop: drop == 1, Tok: tok}); k.e != api.OK {
			break
		}
	}
	e := k.ended()
	if e == api.OK && !formed(v) {
		e = api.ErrForm
	}
	if e != api.OK {
		return verdict.Verdict{}, e
	}
	return v, e
}

// formed tells whether there is a Kind, and nothing else than what is of it.
func formed(v verdict.Verdict) bool {
	something := map[string]bool{"Tree": len(v.Tree) > 0, "Sure": v.Sure, "At": v.At != 0, "Expect": v.Expect != 0, "Edits": len(v.Edits) > 0}
	own, is := owns()[v.Kind]
	for part, has := range something {
		is = is && (!has || slices.Contains(own, part))
	}
	return is
}

// proofOf is the proof of bytes, or what goes wrong.
func proofOf(b []byte) (verdict.Proof, api.Errno) {
	k := &taken{rest: b}
	var p verdict.Proof
	for range k.num(mostSets) {
		var set []api.Item
		for range k.num(mostItems) {
			prod, dot, from := k.num(mostProd), k.num(mostDot), k.num(mostPlace)
			if set = append(set, api.Item{Prod: prod, Dot: dot, From: from}); k.e != api.OK {
				break
			}
		}
		p.Sets = append(p.Sets, set)
	}
	for range k.num(mostLeads) {
		p.Leads = append(p.Leads, k.tree())
	}
	if e := k.ended(); e != api.OK {
		return verdict.Proof{}, e
	}
	return p, api.OK
}
