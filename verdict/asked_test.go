package verdict_test

import (
	"bytes"
	"testing"

	"probate/api"
	"probate/verdict"
)

// asked is what is asked of verdicts, and likewise of proofs.
type asked[T any] struct {
	may     func(one T) bool
	alike   func(a, b T) bool
	bytes   func(one T) ([]byte, api.Errno)
	read    func(b []byte) (T, api.Errno)
	numbers func(one T) []place
	worked  func(b []byte) (T, api.Errno)
}

var (
	verdicts = asked[verdict.Verdict]{verdict.May, verdict.Same, verdict.Bytes, verdict.Read, numbersOf, verdictOf}
	proofs   = asked[verdict.Proof]{verdict.Right, verdict.Alike, verdict.Encode, verdict.Decode, numbersOfProof, proofOf}
)

// says holds whether one may be against what is wanted, twice (R4), and that it stays as it was (R3).
func (a asked[T]) says(t *testing.T, name string, one T, want bool) {
	t.Helper()
	old := text(one)
	for range 2 {
		if a.may(one) != want {
			t.Errorf("%s: that %.300s may be isn't %v", name, old, want)
		}
	}
	if text(one) != old {
		t.Errorf("%s: %.300s became %.300s", name, old, text(one))
	}
}

// same holds whether two are the same against what is wanted, from both sides, and that both stay as they were (R3).
func (a asked[T]) same(t *testing.T, name string, one, other T, want bool) {
	t.Helper()
	olds := [2]string{text(one), text(other)}
	if a.alike(one, other) != want || a.alike(other, one) != want {
		t.Errorf("%s: that %.300s and %.300s are the same isn't %v", name, olds[0], olds[1], want)
	}
	if text(one) != olds[0] || text(other) != olds[1] {
		t.Errorf("%s: %.300s, %.300s became %.300s, %.300s", name, olds[0], olds[1], text(one), text(other))
	}
}

// tells holds bytes against what is wanted, and that what they are those of comes back from them, twice (R4), while nothing is changed (R3).
func (a asked[T]) tells(t *testing.T, name string, one T, want []byte) {
	t.Helper()
	old := text(one)
	for range 2 {
		if b, e := a.bytes(one); !bytes.Equal(b, want) || e != api.OK {
			t.Errorf("%s: the bytes of %.300s are %s, %d, not %s", name, old, short(b), e, short(want))
		}
		if back, e := a.read(want); text(back) != old || e != api.OK {
			t.Errorf("%s: %s are read as %.300s, %d, not %.300s", name, short(want), text(back), e, old)
		}
	}
	if text(one) != old {
		t.Errorf("%s: %.300s became %.300s", name, old, text(one))
	}
}

// comes holds bytes against those that are worked out.
func (a asked[T]) comes(t *testing.T, name string, one T) {
	t.Helper()
	a.tells(t, name, one, put(a.numbers(one)))
}

// wrongs holds that one has no bytes (R2), and stays as it was.
func (a asked[T]) wrongs(t *testing.T, name string, one T) {
	t.Helper()
	old := text(one)
	if b, e := a.bytes(one); b != nil || e != api.ErrArg {
		t.Errorf("%s: the bytes of %.300s are %s, %d", name, old, short(b), e)
	}
	if text(one) != old {
		t.Errorf("%s: %.300s became %.300s", name, old, text(one))
	}
}

// reads holds what bytes are read as against what is wanted: one, or an error beside which there is a zero one (R2); the bytes stay (R3).
func (a asked[T]) reads(t *testing.T, name string, b []byte, want T, wrong api.Errno) {
	t.Helper()
	old := bytes.Clone(b)
	if one, e := a.read(b); text(one) != text(want) || e != wrong {
		t.Errorf("%s: %s are read as %.300s, %d, not %.300s, %d", name, short(old), text(one), e, text(want), wrong)
	}
	if !bytes.Equal(b, old) {
		t.Errorf("%s: %s became %s", name, short(old), short(b))
	}
}

// fails holds that something goes wrong with bytes.
func (a asked[T]) fails(t *testing.T, name string, b []byte, wrong api.Errno) {
	t.Helper()
	var none T
	a.reads(t, name, b, none, wrong)
}

// holds holds all that bytes are read as against what is worked out; if they are read, they come back.
func (a asked[T]) holds(t *testing.T, b []byte, counts map[api.Errno]int) {
	t.Helper()
	one, e := a.worked(b)
	a.reads(t, "any bytes", b, one, e)
	if counts[e]++; e != api.OK {
		return
	}
	if back, e := a.bytes(one); !bytes.Equal(back, b) || e != api.OK {
		t.Errorf("%s came back as %s, %d", short(b), short(back), e)
	}
}
