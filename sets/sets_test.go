package sets

import (
	"bytes"
	"cmp"
	"math"
	"slices"
	"testing"

	"elasticstore/api"
	"elasticstore/wire"
)

// item is an element with a list of its own.
type item struct {
	author, number int
	list           []byte
}

func of(author, number int) item { return item{author, number, []byte{byte(author), byte(number)}} }

// items describes items: one without a list is not valid, and a set has at most four.
func items() Kind[item] {
	return Kind[item]{
		Author: func(x item) int { return x.author },
		Number: func(x item) int { return x.number },
		Validate: func(x item) api.Errno {
			if len(x.list) == 0 {
				return api.ErrInvalid
			}
			return api.OK
		},
		Compare: func(x, y item) int { return cmp.Or(cmp.Compare(x.author, y.author), cmp.Compare(x.number, y.number)) },
		Equal:   equal,
		Copy: func(x item) item {
			x.list = slices.Clone(x.list)
			return x
		},
		Append: func(b []byte, x item) []byte { return slices.Concat(b, []byte{byte(x.author), byte(x.number)}) },
		Decode: func(b []byte) (item, int, api.Errno) {
			if len(b) < 2 {
				return item{}, 0, api.ErrTruncated
			}
			return of(int(b[0]), int(b[1])), 2, api.OK
		},
		Most: 4,
	}
}

func equal(x, y item) bool {
	return x.author == y.author && x.number == y.number && bytes.Equal(x.list, y.list)
}

func same(a, b []item) bool { return slices.EqualFunc(a, b, equal) }

// example returns a set of two authors.
func example() []item { return []item{of(5, 1), of(5, 2), of(7, 1)} }

func TestValidate(t *testing.T) {
	bad := func(author, number int) item { return item{author: author, number: number} }
	for _, x := range []struct {
		list []item
		e    api.Errno
	}{
		{nil, api.OK},
		{example(), api.OK},
		{[]item{of(-3, 1), of(0, 1), of(1, 1)}, api.OK},
		{[]item{bad(5, 1)}, api.ErrInvalid},
		{[]item{of(5, 1), of(5, 1)}, api.ErrOrder},
		{[]item{of(5, 1), of(4, 1)}, api.ErrOrder},
		{[]item{of(5, 2)}, api.ErrGap},
		{[]item{of(5, 1), of(5, 3)}, api.ErrGap},
		{[]item{of(5, 1), of(6, 2)}, api.ErrGap},
		{[]item{of(5, 1), bad(4, 2)}, api.ErrInvalid},
		{[]item{of(5, 1), of(4, 2)}, api.ErrOrder},
		{[]item{of(5, 2), bad(5, 1)}, api.ErrGap},
	} {
		if e := Validate(items(), x.list); e != x.e {
			t.Errorf("Validate(%v) = %v, want %v", x.list, e, x.e)
		}
	}
}

func TestFollows(t *testing.T) {
	for _, x := range []struct {
		before []item
		e      item
		want   bool
	}{
		{nil, of(5, 1), true},
		{nil, of(5, 2), false},
		{example(), of(9, 1), true},
		{example(), of(7, 2), true},
		{example(), of(7, 3), false},
		{example(), of(8, 2), false},
		{example()[:2], of(5, 3), true},
		{example()[:1], of(5, 3), false},
		{[]item{of(5, math.MaxInt)}, of(5, math.MinInt), true},
		{[]item{of(5, math.MinInt)}, of(5, math.MaxInt), false},
	} {
		if got := Follows(items(), x.before, x.e); got != x.want {
			t.Errorf("Follows(%v, %v) = %v", x.before, x.e, got)
		}
	}
}

func TestFind(t *testing.T) {
	for _, x := range []struct {
		e     item
		i     int
		found bool
	}{
		{of(4, 9), 0, false}, {of(5, 1), 0, true}, {of(5, 2), 1, true}, {of(5, 3), 2, false}, {of(7, 1), 2, true}, {of(7, 2), 3, false},
		{item{author: 5, number: 2}, 1, true},
	} {
		if i, found := Find(items(), example(), x.e); i != x.i || found != x.found {
			t.Errorf("Find(%v) = %d, %v, want %d, %v", x.e, i, found, x.i, x.found)
		}
	}
}

func TestVector(t *testing.T) {
	if got := Vector(items(), example()); !slices.Equal(got, api.Vector{{Author: 5, Count: 2}, {Author: 7, Count: 1}}) {
		t.Errorf("Vector = %v", got)
	}
	if got := Vector(items(), nil); len(got) != 0 {
		t.Errorf("Vector of nothing = %v", got)
	}
}

func TestUnionAndContains(t *testing.T) {
	a, b := example(), []item{of(3, 1), of(5, 1), of(7, 1), of(7, 2)}
	want := []item{of(3, 1), of(5, 1), of(5, 2), of(7, 1), of(7, 2)}
	for _, x := range [][2][]item{{a, b}, {b, a}, {want, b}, {nil, want}, {want, nil}} {
		union := Union(items(), x[0], x[1])
		if !same(union, want) || !Contains(items(), union, x[0]) || !Contains(items(), union, x[1]) {
			t.Errorf("Union of %v and %v = %v", x[0], x[1], union)
		}
	}
	if Contains(items(), a, b) || Contains(items(), b, a) || !Contains(items(), a, nil) || Contains(items(), nil, a) {
		t.Errorf("Contains of %v and %v", a, b)
	}
	if Contains(items(), a, []item{{5, 1, []byte("other")}}) {
		t.Errorf("%v contains an element that is not equal", a)
	}
}

func TestAdd(t *testing.T) {
	for _, x := range []struct {
		e     item
		want  []item
		errno api.Errno
	}{
		{of(4, 1), []item{of(4, 1), of(5, 1), of(5, 2), of(7, 1)}, api.OK},
		{of(5, 3), []item{of(5, 1), of(5, 2), of(5, 3), of(7, 1)}, api.OK},
		{of(7, 2), []item{of(5, 1), of(5, 2), of(7, 1), of(7, 2)}, api.OK},
		{of(5, 1), nil, api.ErrDuplicate},
		{item{5, 2, []byte("other")}, nil, api.ErrDuplicate},
		{of(5, 4), nil, api.ErrGap},
		{of(6, 2), nil, api.ErrGap},
		{item{author: 5, number: 1}, nil, api.ErrInvalid},
		{item{author: 5, number: 9}, nil, api.ErrInvalid},
	} {
		if got, e := Add(items(), example(), x.e); !same(got, x.want) || e != x.errno {
			t.Errorf("Add(%v) = %v, %v, want %v, %v", x.e, got, e, x.want, x.errno)
		}
	}
}

func TestEncoding(t *testing.T) {
	encoded := []byte{3, 5, 1, 5, 2, 7, 1}
	if got := Append(items(), []byte{9}, example()); !bytes.Equal(got, slices.Concat([]byte{9}, encoded)) {
		t.Errorf("Append = %v", got)
	}
	if got, n, e := Decode(items(), append(slices.Clone(encoded), 0)); !same(got, example()) || n != len(encoded) || e != api.OK {
		t.Errorf("Decode = %v, %d, %v", got, n, e)
	}
	for _, x := range []struct {
		b []byte
		e api.Errno
	}{
		{nil, api.ErrTruncated},
		{[]byte{128, 0}, api.ErrInvalid},
		{[]byte{4}, api.ErrTruncated},
		{[]byte{5, 5, 1, 5, 2, 5, 3, 5, 4, 5, 5}, api.ErrTooLong},
		{wire.AppendUint(nil, math.MaxUint64), api.ErrTooLong},
		{encoded[:6], api.ErrTruncated},
		{[]byte{2, 5, 2, 5}, api.ErrTruncated},
		{[]byte{2, 5, 1, 4, 1}, api.ErrOrder},
		{[]byte{2, 5, 1, 5, 3}, api.ErrGap},
	} {
		if got, n, e := Decode(items(), x.b); len(got) != 0 || n != 0 || e != x.e {
			t.Errorf("Decode(%v) = %v, %d, %v, want %v", x.b, got, n, e, x.e)
		}
	}
}

// The lists of a result are new, even if the elements of an argument share one.
func TestResultsAreNewMemory(t *testing.T) {
	shared := []byte("list")
	a, b := []item{{5, 1, shared}, {7, 1, shared}}, []item{{6, 1, shared}}
	added, _ := Add(items(), a, b[0])
	for name, result := range map[string][]item{"Copy": Copy(items(), a), "Union": Union(items(), a, b), "Add": added} {
		for i, x := range result {
			copy(x.list, "this")
			for k, y := range result {
				if k != i && string(y.list) != "list" || string(shared) != "list" {
					t.Errorf("%s: element %d or %q has changed with element %d", name, k, shared, i)
				}
			}
			copy(x.list, "list")
			result[i].author = 0
		}
		if a[0].author != 5 || a[1].author != 7 || b[0].author != 6 {
			t.Errorf("%s: the arguments have become %v, %v", name, a, b)
		}
	}
}
