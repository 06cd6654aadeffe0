package rules

import (
	"probate/api"
	"probate/scan"
)

// Read tells the tree of a text.
func Read(text string) (Tree, int, api.Errno) {
	tokens, at, e := scan.Scan(text)
	if e != api.OK {
		return Tree{}, at, e
	}
	r := reader{rest: tokens, end: len(text)}
	if at, e = r.read(); e != api.OK {
		return Tree{}, at, e
	}
	if at, e = r.wrong(); e != api.OK {
		return Tree{}, at, e
	}
	return r.tree, 0, api.OK
}

// reader reads a text's tokens, one by one, and keeps the tree of what was read.
type reader struct {
	rest         []scan.Token // what wasn't taken
	end          int          // the text's length: the place at which tokens that end too soon are missed
	tree         Tree
	heads, calls []scan.Token // the Names of rules, and those within rules: nodes don't tell their places
}

// misplaced is the place at which the reader gives up.
type misplaced int

// read reads the whole text, or tells where it gave up. A panic that isn't the reader's own would be a fault of the program, and the assertion doesn't hide it.
func (r *reader) read() (at int, e api.Errno) {
	defer func() {
		if given := recover(); given != nil {
			at, e = int(given.(misplaced)), api.ErrForm
		}
	}()
	r.rule()
	for len(r.rest) > 0 {
		r.rule()
	}
	return 0, api.OK
}

// wrong tells what is wrong with the tree of a text that is a text of rules.
func (r *reader) wrong() (int, api.Errno) {
	if tooBig(r.tree) {
		return 0, api.ErrBig
	}
	for i, head := range r.heads {
		if has(r.tree.Rules[:i], head.Text) {
			return head.At, api.ErrTwice
		}
	}
	for _, call := range r.calls {
		if !has(r.tree.Rules, call.Text) {
			return call.At, api.ErrName
		}
	}
	return 0, api.OK
}

func (r *reader) rule() {
	head := r.take(r.next().Kind == scan.Name)
	r.take(r.isMark(":"))
	body := r.alternatives()
	r.take(r.isMark(";"))
	r.heads = append(r.heads, head)
	r.tree.Rules = append(r.tree.Rules, Rule{Name: head.Text, Body: body})
}

// alternatives reads these, and tells the node that stands for them. So do items, item and atom.
func (r *reader) alternatives() int {
	kids := []int{r.items()}
	for r.isMark("|") {
		r.take(true)
		kids = append(kids, r.items())
	}
	return r.putAll(Alt, kids)
}

func (r *reader) items() int {
	var kids []int
	for r.isAtom() {
		kids = append(kids, r.item())
	}
	return r.putAll(Seq, kids)
}

func (r *reader) item() int {
	node := r.atom()
	if kind, ok := r.behindAtom(); ok {
		r.take(true)
		return r.put(Node{Kind: kind, Kids: []int{node}})
	}
	return node
}

func (r *reader) atom() int {
	switch token := r.take(r.isAtom()); token.Kind {
	case scan.Name:
		r.calls = append(r.calls, token)
		return r.put(Node{Kind: Call, Name: token.Text})
	case scan.Quote:
		return r.put(Node{Kind: Term, Name: token.Text})
	}
	node := r.alternatives()
	r.take(r.isMark(")"))
	return node
}

// next tells the next token, without taking it: behind the last one there is one of no kind.
func (r *reader) next() scan.Token {
	if len(r.rest) == 0 {
		return scan.Token{At: r.end}
	}
	return r.rest[0]
}

// take takes the next token, or, if it isn't one that may stand there, gives up.
func (r *reader) take(may bool) scan.Token {
	token := r.next()
	if !may {
		panic(misplaced(token.At))
	}
	r.rest = r.rest[1:]
	return token
}

// isMark asks for the kind, too: a Quote's Text may be a Mark's.
func (r *reader) isMark(text string) bool {
	token := r.next()
	return token.Kind == scan.Mark && token.Text == text
}

func (r *reader) isAtom() bool {
	kind := r.next().Kind
	return kind == scan.Name || kind == scan.Quote || r.isMark("(")
}

// behindAtom tells which kind of node the next token makes of the atom ahead of it, if it makes one.
func (r *reader) behindAtom() (kind int, ok bool) {
	switch {
	case r.isMark("*"):
		return Star, true
	case r.isMark("+"):
		return Plus, true
	case r.isMark("?"):
		return Opt, true
	}
	return 0, false
}

// putAll puts the node of Kids, but one alone stands for itself.
func (r *reader) putAll(kind int, kids []int) int {
	if len(kids) == 1 {
		return kids[0]
	}
	return r.put(Node{Kind: kind, Kids: kids})
}

// put tells the node's number. Nodes are put when all that stands ahead of their end was read: so each is behind its Kids.
func (r *reader) put(n Node) int {
	r.tree.Nodes = append(r.tree.Nodes, n)
	return len(r.tree.Nodes) - 1
}
