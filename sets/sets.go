// Package sets: sets of elements that their authors number 1, 2, 3, ... Configurations are such sets of proposals, states
// are such sets of updates.
//
// A set is a list, ascending by author and number, that contains with each element all elements of the same author with
// smaller numbers. Unless said otherwise the functions expect sets that agree on the elements that they have in common.
package sets

import (
	"slices"

	"elasticstore/api"
	"elasticstore/wire"
)

// Kind describes the elements of a set.
type Kind[E any] struct {
	Author   func(e E) int
	Number   func(e E) int
	Validate func(e E) api.Errno
	Compare  func(x, y E) int // by author and number
	Equal    func(x, y E) bool
	Copy     func(e E) E // in new memory
	Append   func(b []byte, e E) []byte
	Decode   func(b []byte) (E, int, api.Errno)
	Most     int // elements of an encoded set
}

// Validate reports whether list is a set of valid elements. It returns the first error of an element, in this order: that
// of k.Validate, ErrOrder, ErrGap.
func Validate[E any](k Kind[E], list []E) api.Errno {
	for i, e := range list {
		if errno := k.Validate(e); errno != api.OK {
			return errno
		}
		if i > 0 && k.Compare(e, list[i-1]) <= 0 {
			return api.ErrOrder
		}
		if !Follows(k, list[:i], e) {
			return api.ErrGap
		}
	}
	return api.OK
}

// Follows reports whether e has a number that may come directly behind the elements of before.
func Follows[E any](k Kind[E], before []E, e E) bool {
	if k.Number(e) <= 1 {
		return true
	}
	if len(before) == 0 {
		return false
	}
	last := before[len(before)-1]
	return k.Author(last) == k.Author(e) && k.Number(last) == k.Number(e)-1
}

// Find returns where in set the element with the author and number of e is, or where it would have to be, and whether
// there is one.
func Find[E any](k Kind[E], set []E, e E) (int, bool) {
	return slices.BinarySearchFunc(set, e, k.Compare)
}

// Vector returns the number of elements of each author.
func Vector[E any](k Kind[E], set []E) api.Vector {
	var v api.Vector
	for _, e := range set {
		author := k.Author(e)
		if len(v) == 0 || v[len(v)-1].Author != author {
			v = append(v, api.Entry{Author: author})
		}
		v[len(v)-1].Count++
	}
	return v
}

// Contains reports whether a contains all elements of b.
func Contains[E any](k Kind[E], a, b []E) bool {
	for _, e := range b {
		i, found := Find(k, a, e)
		if !found || !k.Equal(a[i], e) {
			return false
		}
	}
	return true
}

// Union returns the union of a and b.
func Union[E any](k Kind[E], a, b []E) []E {
	var union []E
next:
	for _, e := range b {
		for len(a) > 0 {
			order := k.Compare(a[0], e)
			if order > 0 {
				break
			}
			union = append(union, a[0])
			a = a[1:]
			if order == 0 {
				continue next
			}
		}
		union = append(union, e)
	}
	return Copy(k, append(union, a...))
}

// Add returns set with e added. It returns the first error that applies, in this order: that of k.Validate, ErrDuplicate,
// ErrGap.
func Add[E any](k Kind[E], set []E, e E) ([]E, api.Errno) {
	if errno := k.Validate(e); errno != api.OK {
		return nil, errno
	}
	i, found := Find(k, set, e)
	switch {
	case found:
		return nil, api.ErrDuplicate
	case !Follows(k, set[:i], e):
		return nil, api.ErrGap
	}
	return Copy(k, slices.Concat(set[:i], []E{e}, set[i:])), api.OK
}

// Copy returns a copy of list that shares no memory with it, and whose elements share none with each other.
func Copy[E any](k Kind[E], list []E) []E {
	out := slices.Clone(list)
	for i, e := range out {
		out[i] = k.Copy(e)
	}
	return out
}

// Append appends the encoding of set to b: the number of elements, then each of them.
func Append[E any](k Kind[E], b []byte, set []E) []byte {
	out := wire.AppendUint(b, uint64(len(set)))
	for _, e := range set {
		// k.Append copies what it is given: handing out over each time would take quadratic time.
		out = append(out, k.Append(nil, e)...)
	}
	return out
}

// Decode decodes a set from the beginning of b. It returns the errors of its values in their order, then that of Validate.
func Decode[E any](k Kind[E], b []byte) ([]E, int, api.Errno) {
	size, used, errno := wire.Uint(b)
	if errno != api.OK {
		return nil, 0, errno
	}
	if size > uint64(k.Most) {
		return nil, 0, api.ErrTooLong
	}
	var set []E
	for range size {
		e, n, errno := k.Decode(b[used:])
		if errno != api.OK {
			return nil, 0, errno
		}
		set = append(set, e)
		used += n
	}
	if errno := Validate(k, set); errno != api.OK {
		return nil, 0, errno
	}
	return set, used, api.OK
}
