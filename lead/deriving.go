package lead

import (
	"slices"

	"probate/api"
	"probate/gram"
	"probate/span"
)

// left is a symbol that is left to derive, and the places of the word from which what is asked for may come of it and of all that is left behind it: bit k is place k.
type left struct {
	api.Sym
	from uint32
}

// deriving is how far a derivation has come: at which place of the word, and what is left, the leftmost symbol last.
type deriving struct {
	g     api.Grammar
	w     []int
	kind  int
	rows  []span.Row
	facts []api.Fact
	at    int
	list  []left
}

// next takes the leftmost nonterminal, if there is one, and all terminals ahead of it. Behind the word's end these are tokens of a longer word.
func (d *deriving) next() (int, bool) {
	for len(d.list) > 0 {
		last := len(d.list) - 1
		s := d.list[last]
		d.list = d.list[:last]
		if s.Non {
			return s.N, true
		}
		if d.at < len(d.w) {
			d.at++
		}
	}
	return 0, false
}

// choose puts the symbols of a production in a nonterminal's place, of the first one by which what is asked for may still come, and tells which.
func (d *deriving) choose(non int) (int, bool) {
	for _, prod := range d.inOrder(non) {
		if d.put(d.g.Prods[prod].Right) {
			return prod, true
		}
	}
	return 0, false
}

// inOrder tells the productions of a nonterminal that are tried here, in their order.
func (d *deriving) inOrder(non int) []int {
	l := gram.Of(d.g, non)
	switch {
	case d.kind == Greatest:
		slices.Reverse(l)
	case d.kind == Begin && d.at == len(d.w):
		fact := d.facts[non].Prod
		l = slices.DeleteFunc(l, func(prod int) bool { return prod != fact })
	}
	return l
}

// put puts symbols ahead of what is left, if what is asked for may come then, and tells whether it may.
func (d *deriving) put(symbols []api.Sym) bool {
	many, from := len(d.list), d.from()
	for _, s := range slices.Backward(symbols) {
		from = d.through(s, from)
		d.list = append(d.list, left{s, from})
	}
	if from>>d.at&1 == 0 {
		d.list = d.list[:many]
		return false
	}
	return true
}

// from tells the places from which what is left may come: of nothing, the word's end alone.
func (d *deriving) from() uint32 {
	if len(d.list) == 0 {
		return 1 << len(d.w)
	}
	return d.list[len(d.list)-1].from
}

// through tells the places from which a symbol and what is behind it may come, by those of what is behind it. Where a word goes on behind this one's end, nothing is asked of what is behind: in a sound grammar a word comes of each symbol.
func (d *deriving) through(s api.Sym, behind uint32) uint32 {
	set := uint32(0)
	for at := range d.rows {
		ends, over := d.of(s, at)
		if ends<<at&behind != 0 || over && d.kind == Begin {
			set |= 1 << at
		}
	}
	return set
}

// of tells how many tokens from a place on come of a symbol (bit k: k of them), and whether something comes of it that reaches the word's end, or goes beyond.
func (d *deriving) of(s api.Sym, at int) (uint32, bool) {
	if s.Non {
		row := &d.rows[at]
		return row.Ends[s.N], row.Over>>s.N&1 == 1
	}
	if at == len(d.w) {
		return 0, true
	}
	if d.w[at] == s.N {
		return 1 << 1, at+1 == len(d.w)
	}
	return 0, false
}
