package lead_test

import (
	"slices"
	"strconv"
	"testing"

	"probate/api"
	"probate/lead"
	"probate/span"
)

// steps is symbols whose derivations have so many productions in all, and the productions that are needed for that, of nonterminals from next on; of nonterminal 1 a leaf comes.
func steps(next, many int) (string, string, int) {
	if many <= 5 {
		return as(" 1", many), "", next
	}
	symbols, productions, behind := steps(next+1, many/2-1)
	name := strconv.Itoa(next)
	return as(" "+name, 2) + as(" 1", many%2), name + ":" + symbols + ";" + productions, behind
}

// sized is a grammar that has one derivation alone, of so many productions, and in it, in order, letters, and as often as there are leaves what a leaf is.
func sized(letters, leaf string, many int) api.Grammar {
	symbols, productions, _ := steps(2, many-1)
	return of("0: " + letters + symbols + "; 1: " + leaf + ";" + productions)
}

// only is the derivation that takes of each nonterminal its first production.
func only(g api.Grammar) []int {
	var l []int
	for left := []int{g.Start}; len(left) > 0; {
		prod := slices.IndexFunc(g.Prods, func(p api.Prod) bool { return p.Left == left[0] })
		l, left = append(l, prod), left[1:]
		var nons []int
		for _, s := range g.Prods[prod].Right {
			if s.Non {
				nons = append(nons, s.N)
			}
		}
		left = append(nons, left...)
	}
	return l
}

// is holds what is told of a word of letters in each of some kinds, and that it is what is worked out.
func is(t *testing.T, g api.Grammar, text string, want []int, e api.Errno, in ...int) {
	t.Helper()
	w := letters(text)
	for _, kind := range in {
		if own, wrong := byParts(g, w, kind); wrong != e || !slices.Equal(own, want) {
			t.Fatalf("of %v, %s, in kind %d: wanted is %v (%d), %v, but worked out %v (%d), %v", g, text, kind, shorter(want), len(want), e, shorter(own), len(own), wrong)
		}
		holds(t, g, w, kind, want, e)
	}
}

// P17.1: a derivation of just MostSteps productions is told in each kind, one of a production more isn't, nor one of many more.
func TestMostSteps(t *testing.T) {
	for _, letters := range []string{"", "a", "a b", "a b c d e"} {
		for _, many := range []int{2, 7, 100, api.MostSteps - 1, api.MostSteps, api.MostSteps + 1, api.MostSteps + 2, 2*api.MostSteps + 1, 100000} {
			g := sized(letters, "", many)
			l, e := only(g), api.OK
			if len(l) != many {
				t.Fatalf("%d productions, not %d", len(l), many)
			}
			if many > api.MostSteps {
				l, e = nil, api.ErrBig
			}
			w := ""
			for i := 0; i < len(letters); i += 2 {
				is(t, g, w, nil, api.ErrNone, lead.Least, lead.Greatest)
				is(t, g, w, l, e, lead.Begin)
				w += letters[i : i+1]
			}
			is(t, g, w, l, e, kinds...)
		}
	}
}

// P17.1: likewise, where a word of many tokens comes, of which Begin is asked by few.
func TestMostStepsOfLongWord(t *testing.T) {
	for _, many := range []int{api.MostSteps - 1, api.MostSteps, api.MostSteps + 1, api.MostSteps + 2} {
		for _, leaf := range []string{"b", "b b b b b b b b"} {
			g := sized("a", leaf, many)
			l, e := only(g), api.OK
			if many > api.MostSteps {
				l, e = nil, api.ErrBig
			}
			for _, w := range []string{"", "a", "ab", "a" + as("b", api.MostWord-1)} {
				is(t, g, w, l, e, lead.Begin)
				is(t, g, w, nil, api.ErrNone, lead.Least, lead.Greatest)
			}
		}
	}
}

// P17.1: likewise, where it is told by each of MostWord tokens, and by what is behind them.
func TestMostStepsOfMostWord(t *testing.T) {
	for more := range 3 {
		each, first, next := steps(2, 81)
		behind, second, _ := steps(next, api.MostSteps-1-24*82+more)
		g := of("0: a" + each + " 0; 0:" + behind + "; 1: ;" + first + second)
		for many := range api.MostWord + 1 {
			own, e := byParts(g, letters(as("a", many)), lead.Least)
			if many < api.MostWord && len(own) != api.MostSteps+more-82*(api.MostWord-many) || many == api.MostWord && more > 0 && e != api.ErrBig || many == api.MostWord && more == 0 && len(own) != api.MostSteps {
				t.Fatalf("of %d tokens, and %d: worked out are %d productions, %v", many, more, len(own), e)
			}
			is(t, g, as("a", many), own, e, kinds...)
		}
	}
}

// P17.1: one of a word's derivations is too long, and another one isn't: what is told is told of the one that is asked for.
func TestOneIsBig(t *testing.T) {
	for more := range 2 {
		g := sized("a", "", api.MostSteps+more)
		big, e := only(g), api.OK
		if more > 0 {
			big, e = nil, api.ErrBig
		}
		behind := len(g.Prods)
		g.Prods = append(g.Prods, api.Prod{Right: []api.Sym{{N: 0}}})
		is(t, g, "a", big, e, lead.Least, lead.Begin)
		is(t, g, "a", []int{behind}, api.OK, lead.Greatest)
		is(t, g, "", []int{behind}, api.OK, lead.Begin)

		g.Prods = append(g.Prods[behind:], g.Prods[:behind]...)
		if big != nil {
			big = only(sized("a", "", api.MostSteps))
			for i := range big {
				big[i]++
			}
		}
		is(t, g, "a", []int{0}, api.OK, lead.Least, lead.Begin)
		is(t, g, "a", big, e, lead.Greatest)
		is(t, g, "", []int{0}, api.OK, lead.Begin)
	}
}

// P17.1: of Begin it is asked whether the derivation that is told for it is too long, not whether the word's are.
func TestBeginIsBig(t *testing.T) {
	g := sized("a b", "", api.MostSteps+1) // by the least production only a longer word comes
	behind := len(g.Prods)
	g.Prods = append(g.Prods, api.Prod{Right: []api.Sym{{N: 0}}})
	is(t, g, "a", nil, api.ErrBig, lead.Begin)
	is(t, g, "a", []int{behind}, api.OK, lead.Least, lead.Greatest)
	is(t, g, "", []int{behind}, api.OK, lead.Begin)

	symbols, productions, next := steps(3, api.MostSteps)
	least := "2:" + symbols + "; 2: ;"
	if next > api.MostNons {
		t.Fatal("too many nonterminals")
	}
	g = of("0: a 2; 0: c; 1: ;" + least + productions)
	is(t, g, "a", nil, api.ErrBig, lead.Least)
	is(t, g, "a", []int{0, 4}, api.OK, lead.Greatest, lead.Begin) // the fact's production tells no more

	symbols, productions, _ = steps(3, api.MostSteps)
	g = of("0: 2 a; 0: c; 1: ; 2:" + symbols + "; 2: ;" + productions)
	is(t, g, "a", nil, api.ErrBig, lead.Least, lead.Begin) // ahead of the word's last token it is the least one
	is(t, g, "a", []int{0, 4}, api.OK, lead.Greatest)
	is(t, g, "", []int{1}, api.OK, lead.Begin)
}

// eights is a grammar of as many nonterminals as there may be, each of which is eight of the next one; of the last one nothing comes, or a letter.
func eights(letter string) api.Grammar {
	text := ""
	for non := range last {
		text += strconv.Itoa(non) + ":" + as(" "+strconv.Itoa(non+1), 8) + ";"
	}
	return of(text + strconv.Itoa(last) + ": ;" + strconv.Itoa(last) + ": " + letter)
}

// P17.1, R1: derivations of more productions than could ever be told are ErrBig, and soon.
func TestFarTooBig(t *testing.T) {
	g := eights("a")
	for many := range api.MostWord + 1 {
		w := letters(as("a", many))
		for _, kind := range kinds {
			fails(t, g, w, kind, api.ErrBig)
		}
	}
	g.Prods[last], g.Prods[last+1] = g.Prods[last+1], g.Prods[last] // the letter first
	for _, w := range [][]int{nil, letters("a"), letters(as("a", api.MostWord))} {
		rows := span.Rows(g, w)
		for _, kind := range kinds {
			fails(t, g, w, kind, api.ErrBig)
			by(t, g, w, kind, rows, nil, api.ErrBig)
		}
	}
	for _, kind := range kinds {
		fails(t, g, letters("ab"), kind, api.ErrNone)
	}
}
