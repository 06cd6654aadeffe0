package tree

// stack holds things, of which the one that came last is taken first.
type stack[T any] struct {
	list []T
}

func (s *stack[T]) push(one T) {
	s.list = append(s.list, one)
}

// pop tells the zero value and false, if there is nothing to take.
func (s *stack[T]) pop() (one T, is bool) {
	last := len(s.list) - 1
	if last < 0 {
		return one, false
	}
	one = s.list[last]
	s.list = s.list[:last]
	return one, true
}
