package verdict

import (
	"slices"

	"probate/api"
	"probate/wire"
)

// part is a sort of what verdicts and proofs are made of. That it is asked, written and read by one value lets the bounds stand in one place.
type part[T any] interface {
	may(one T) bool
	write(w *wire.Writer, one T)
	read(r *wire.Reader) T
}

// upTo is the numbers from 0 to this one.
type upTo int

const (
	kinds  upTo = Limit
	prods  upTo = api.MostProds - 1
	dots   upTo = api.MostRight
	places upTo = api.MostWord
	tokens upTo = api.MostTerms - 1
	nexts  upTo = 1<<17 - 1 // a bit for each terminal there may be, and that of the end
)

func (most upTo) may(n int) bool {
	return n >= 0 && n <= int(most)
}

func (most upTo) write(w *wire.Writer, n int) {
	w.Num(n)
}

func (most upTo) read(r *wire.Reader) int {
	return r.Num(int(most))
}

// list is the lists of up to so many of one sort.
type list[T any] struct {
	most int
	of   part[T]
}

func trees() list[int] {
	return list[int]{api.MostSteps, prods}
}

func changes() list[api.Edit] {
	return list[api.Edit]{100, edits{}}
}

func sets() list[[]api.Item] {
	return list[[]api.Item]{25, list[api.Item]{1500, items{}}}
}

func leads() list[[]int] {
	return list[[]int]{17, trees()}
}

func (l list[T]) may(all []T) bool {
	wrong := func(one T) bool { return !l.of.may(one) }
	return len(all) <= l.most && !slices.ContainsFunc(all, wrong)
}

func (l list[T]) write(w *wire.Writer, all []T) {
	w.Num(len(all))
	for _, one := range all {
		l.of.write(w, one)
	}
}

func (l list[T]) read(r *wire.Reader) []T {
	return wire.List(r, l.most, l.of.read)
}

type edits struct{}

func (edits) may(e api.Edit) bool {
	return places.may(e.At) && tokens.may(e.Tok)
}

func (edits) write(w *wire.Writer, e api.Edit) {
	w.Num(e.At)
	w.Bool(e.Drop)
	w.Num(e.Tok)
}

// read sets the fields one by one, as all that read structs here: numbers are read in the order in which they stand.
func (edits) read(r *wire.Reader) api.Edit {
	var e api.Edit
	e.At = places.read(r)
	e.Drop = r.Bool()
	e.Tok = tokens.read(r)
	return e
}

type items struct{}

func (items) may(it api.Item) bool {
	return prods.may(it.Prod) && dots.may(it.Dot) && places.may(it.From)
}

func (items) write(w *wire.Writer, it api.Item) {
	w.Num(it.Prod)
	w.Num(it.Dot)
	w.Num(it.From)
}

func (items) read(r *wire.Reader) api.Item {
	var it api.Item
	it.Prod = prods.read(r)
	it.Dot = dots.read(r)
	it.From = places.read(r)
	return it
}

type verdicts struct{}

func (verdicts) may(v Verdict) bool {
	just, is := own(v)
	return is && Same(v, just) && trees().may(v.Tree) && places.may(v.At) && nexts.may(int(v.Expect)) && changes().may(v.Edits)
}

func (verdicts) write(w *wire.Writer, v Verdict) {
	w.Num(v.Kind)
	trees().write(w, v.Tree)
	w.Bool(v.Sure)
	w.Num(v.At)
	w.Num(int(v.Expect))
	changes().write(w, v.Edits)
}

func (verdicts) read(r *wire.Reader) Verdict {
	var v Verdict
	v.Kind = kinds.read(r)
	v.Tree = trees().read(r)
	v.Sure = r.Bool()
	v.At = places.read(r)
	v.Expect = uint32(nexts.read(r))
	v.Edits = changes().read(r)
	return v
}

type proofs struct{}

func (proofs) may(p Proof) bool {
	return sets().may(p.Sets) && leads().may(p.Leads)
}

func (proofs) write(w *wire.Writer, p Proof) {
	sets().write(w, p.Sets)
	leads().write(w, p.Leads)
}

func (proofs) read(r *wire.Reader) Proof {
	var p Proof
	p.Sets = sets().read(r)
	p.Leads = leads().read(r)
	return p
}

// written tells the bytes of what may be.
func written[T any](by part[T], one T) ([]byte, api.Errno) {
	if !by.may(one) {
		return nil, api.ErrArg
	}
	var w wire.Writer
	by.write(&w, one)
	return w.Bytes(), api.OK
}

// read tells what bytes are those of. Whether it may be is asked last, since that hangs on all of it; each number by itself may stand where it was read.
func read[T any](by part[T], b []byte) (T, api.Errno) {
	r := wire.New(b)
	one := by.read(r)
	e := r.End()
	if e == api.OK && !by.may(one) {
		e = api.ErrForm
	}
	if e != api.OK {
		var none T
		return none, e
	}
	return one, api.OK
}
