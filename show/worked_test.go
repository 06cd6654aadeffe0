package show_test

import (
	"math/rand"
	"slices"
	"strings"
	"testing"

	"probate/api"
	"probate/rules"
	"probate/show"
)

// What follows works texts out a second time. The chapter's brackets are those, and no others, without which a text would be read as another tree: so they are what is left of all that there might be, when each pair was tried.

// bracketed are a node's tokens, with brackets around each that may have some: around a Star, Plus or Opt, too.
func bracketed(x rules.Tree, number int) []string {
	n := x.Nodes[number]
	if n.Kind >= rules.Call {
		return []string{n.Name, "'" + n.Name + "'"}[n.Kind-rules.Call:][:1]
	}
	l := []string{"("}
	for i, k := range n.Kids {
		if i > 0 && n.Kind == rules.Alt {
			l = append(l, "|")
		}
		l = append(l, bracketed(x, k)...)
	}
	return append(l, [][]string{rules.Seq: {")"}, rules.Alt: {")"}, rules.Star: {"*", ")"}, rules.Plus: {"+", ")"}, rules.Opt: {"?", ")"}}[n.Kind]...)
}

// closing tells where the bracket that opens at a place is closed.
func closing(l []string, at int) int {
	for open := 0; ; at++ {
		switch l[at] {
		case "(":
			open++
		case ")":
			if open--; open == 0 {
				return at
			}
		}
	}
}

func asText(x rules.Tree, bodies [][]string) string {
	var b strings.Builder
	for i, r := range x.Rules {
		b.WriteString(r.Name + " : ")
		for _, token := range bodies[i] {
			b.WriteString(token + " ")
		}
		b.WriteString(";\n")
	}
	return b.String()
}

// worked works out what is shown of a tree. No Term's Name may be a bracket here.
func worked(t *testing.T, x rules.Tree) ([][]string, string) {
	t.Helper()
	var bodies [][]string
	for _, r := range x.Rules {
		bodies = append(bodies, bracketed(x, r.Body))
	}
	for i := range bodies {
		for at := 0; at < len(bodies[i]); {
			was := bodies[i]
			if was[at] != "(" {
				at++
				continue
			}
			end := closing(was, at)
			bodies[i] = slices.Concat(was[:at], was[at+1:end], was[end+1:])
			if back, _, e := rules.Read(asText(x, bodies)); e != api.OK || !rules.Same(back, x) {
				bodies[i] = was
				at++
			}
		}
	}
	return bodies, asText(x, bodies)
}

// asWorked holds what is shown of a tree against that, and tells the text.
func asWorked(t *testing.T, x rules.Tree) string {
	t.Helper()
	bodies, want := worked(t, x)
	got, e := show.Text(x)
	if got != want || e != api.OK {
		t.Fatalf("Text: %q, %d, not %q", got, e, want)
	}
	for i := range bodies {
		tokens(t, x, i, bodies[i]...)
	}
	if back, _, e := rules.Read(got); e != api.OK || !rules.Same(back, x) {
		t.Fatalf("%q is read as another tree, %d", got, e)
	}
	return got
}

// P7.1, P7.2: a node of each kind in one of each kind, three levels deep, at each place.
func TestEachInEach(t *testing.T) {
	level := []string{"s", "'a'", "()"}
	for range 2 {
		var next []string
		for i, k := range level {
			other := level[(i+1)%len(level)]
			for _, form := range []string{"(k)*", "(k)+", "(k)?", "(k j)", "(j k)", "(k|j)", "(j|k)", "(j|k|)", "(j k j)"} {
				next = append(next, strings.NewReplacer("k", k, "j", other).Replace(form))
			}
		}
		level = append(level, next...)
	}
	seen := map[string]bool{}
	for _, text := range level {
		seen[asWorked(t, read(t, "s:"+text+";"))] = true
	}
	if len(seen) < 200 {
		t.Errorf("%d: too few to show anything", len(seen))
	}
}

// alternatives are any, of some depth at most, with a gap behind each token.
func alternatives(r *rand.Rand, depth int, gap func() string) string {
	var b strings.Builder
	for i := range 1 + r.Intn(3)*r.Intn(2) {
		if i > 0 {
			b.WriteString("|" + gap())
		}
		for range r.Intn(4) {
			if k := r.Intn(9); k < 6 && depth > 0 {
				b.WriteString("(" + gap() + alternatives(r, depth-1, gap) + ")" + gap())
			} else {
				b.WriteString([]string{"s ", "t ", "'a'", "'b c'", "';'", "'|'"}[r.Intn(6)] + gap())
			}
			b.WriteString([]string{"", "", "*", "+", "?"}[r.Intn(5)] + gap())
		}
	}
	return b.String()
}

// anyTree is one of two rules.
func anyTree(t *testing.T, r *rand.Rand) rules.Tree {
	t.Helper()
	none := func() string { return "" }
	for {
		x, _, e := rules.Read("s:" + alternatives(r, 1+r.Intn(3), none) + ";t:" + alternatives(r, 1, none) + ";")
		if e == api.OK {
			return x
		}
	}
}

// P7.1, P7.2: any trees; those that are not the same have texts that are not.
func TestAny(t *testing.T) {
	r := rand.New(rand.NewSource(71))
	trees := map[string]rules.Tree{}
	for range 1500 {
		x := anyTree(t, r)
		text := asWorked(t, x)
		if other, ok := trees[text]; ok && !rules.Same(x, other) {
			t.Fatalf("%q is the text of two trees", text)
		}
		trees[text] = x
	}
	if len(trees) < 500 {
		t.Errorf("%d: too few to show anything", len(trees))
	}
}

// P7.2: texts of one tree, with gaps and brackets that change nothing, are one text when they are read and written, and that text stays as it is.
func TestTextsOfOneTree(t *testing.T) {
	for _, c := range [][]string{
		{"s : 'a' s | ;\n", "s:'a's|;", "s: (('a' s)|());", "s\n:\n'a'\ns\n|\n;", "#x\ns:'a's#;\n|;#", "s\t:\t'a'\ts\t|\t;\r\n", "s:('a')(s)|((()));"},
		{"s : ( 'a' | s ) * t ;\nt : ;\n", "s:('a'|s)*t;t:;", "s: ((('a'|(s)))* (t)) ; t: () ;", "s:((('a'|s)*))t;# t\nt:(());"},
		{"s : s + ;\n", "s:s+;", "s:(s)+;", "s:(s+);", "s:((s)+);", "s:(((s)+));"},
	} {
		for _, text := range c {
			for range 3 {
				shown, e := show.Text(read(t, text))
				if shown != c[0] || e != api.OK {
					t.Errorf("%q is written as %q, %d", text, shown, e)
				}
				text = shown
			}
		}
	}
	r := rand.New(rand.NewSource(72))
	gaps := []string{"", " ", "\t", "\n", "\r\n", "# 's' ;\n", "  "}
	for range 1000 {
		x := anyTree(t, r)
		want, _ := show.Text(x)
		for range 3 {
			text := respaced(x, func() string { return gaps[r.Intn(len(gaps))] })
			if shown, e := show.Text(read(t, text)); shown != want || e != api.OK {
				t.Fatalf("%q is written as %q, %d, not %q", text, shown, e, want)
			}
		}
	}
}

// respaced is a text of a tree that has all brackets that it may have, and gaps between its tokens.
func respaced(x rules.Tree, gap func() string) string {
	var b strings.Builder
	for _, r := range x.Rules {
		b.WriteString(gap() + r.Name + gap() + ":")
		for _, token := range bracketed(x, r.Body) {
			b.WriteString(gap() + token)
			if last := token[len(token)-1]; 'a' <= last && last <= 'z' {
				b.WriteString(" ") // two Names are one without it
			}
		}
		b.WriteString(gap() + ";")
	}
	return b.String()
}
