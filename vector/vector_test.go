package vector

import (
	"encoding/binary"
	"math"
	"math/rand"
	"slices"
	"testing"

	"elasticstore/api"
)

const most = 1000000 // the greatest count of P3.1

// of returns a vector of pairs of an author and a count.
func of(pairs ...int) api.Vector {
	var v api.Vector
	for p := range slices.Chunk(pairs, 2) {
		v = append(v, api.Entry{Author: p[0], Count: p[1]})
	}
	return v
}

// counts is the model of a vector: the count of each author that has one.
type counts map[int]int

func model(v api.Vector) counts {
	m := counts{}
	for _, e := range v {
		m[e.Author] = e.Count
	}
	return m
}

// vector returns the vector of m, whose counts of 0 are left out.
func (m counts) vector() api.Vector {
	var v api.Vector
	for author, count := range m {
		if count != 0 {
			v = append(v, api.Entry{Author: author, Count: count})
		}
	}
	slices.SortFunc(v, func(a, b api.Entry) int { return a.Author - b.Author })
	return v
}

// authors returns the authors of two models.
func authors(a, b counts) []int {
	var out []int
	for author := range a {
		out = append(out, author)
	}
	for author := range b {
		out = append(out, author)
	}
	return out
}

func modelJoin(a, b counts) counts {
	m := counts{}
	for _, author := range authors(a, b) {
		m[author] = max(a[author], b[author])
	}
	return m
}

func modelMeet(a, b counts) counts {
	m := counts{}
	for _, author := range authors(a, b) {
		m[author] = min(a[author], b[author])
	}
	return m
}

func modelLessEqual(a, b counts) bool {
	return !slices.ContainsFunc(authors(a, b), func(author int) bool { return a[author] > b[author] })
}

func modelCompare(a, b counts) Order {
	switch {
	case slices.Equal(a.vector(), b.vector()):
		return Equal
	case modelLessEqual(a, b):
		return Less
	case modelLessEqual(b, a):
		return Greater
	}
	return Concurrent
}

// small returns all vectors of three authors with counts up to 2.
func small() []api.Vector {
	var out []api.Vector
	for i := range 27 {
		out = append(out, counts{1: i % 3, 2: i / 3 % 3, 4: i / 9}.vector())
	}
	return out
}

// samples returns valid vectors of many sizes and counts, from a fixed sequence. Neighbours share many authors.
func samples() []api.Vector {
	r := rand.New(rand.NewSource(3))
	out := []api.Vector{nil, of(1, 1), of(1, most), of(math.MaxInt, most), of(1, 1, math.MaxInt, 1)}
	for n := range 60 {
		m := counts{}
		for range n {
			m[1+r.Intn(2*n)] = r.Intn(4)
			m[1+r.Intn(1<<40)] = 1 + r.Intn(most)
		}
		out = append(out, m.vector())
		for author := range m {
			m[author] = max(0, min(m[author]+r.Intn(3)-1, most))
		}
		out = append(out, m.vector())
	}
	return out
}

// malformed returns vectors that are not valid.
func malformed() []api.Vector {
	return []api.Vector{
		of(0, 0), of(-1, 5), of(1, 0), of(1, -1), of(1, most+1), of(1, math.MinInt), of(math.MinInt, math.MaxInt, math.MaxInt, math.MinInt),
		of(2, 1, 1, 1), of(1, 1, 1, 1), of(1, 1, 1, 2, 1, 3), of(3, 1, 2, 1, 1, 1, 2, 1, 3, 1), of(1, math.MaxInt, 2, math.MaxInt, 3, math.MaxInt),
		of(math.MaxInt, 1, math.MinInt, 1, 0, 1), of(5, 0, 5, 0, 4, -1),
	}
}

// P3.1

func TestValidate(t *testing.T) {
	for _, x := range []struct {
		v api.Vector
		e api.Errno
	}{
		{nil, api.OK},
		{of(1, 1), api.OK},
		{of(1, most), api.OK},
		{of(math.MaxInt, 1), api.OK},
		{of(1, 1, 2, most, 3, 1), api.OK},
		{of(api.MaxServers, 1, api.FirstClient, 2, api.FirstAdmin, 3, 1<<40, 4), api.OK},
		{of(0, 1), api.ErrRange},
		{of(-1, 1), api.ErrRange},
		{of(math.MinInt, 1), api.ErrRange},
		{of(1, 0), api.ErrRange},
		{of(1, -1), api.ErrRange},
		{of(1, math.MinInt), api.ErrRange},
		{of(1, most+1), api.ErrRange},
		{of(1, math.MaxInt), api.ErrRange},
		{of(1, 1, 1, 1), api.ErrOrder},
		{of(1, 1, 1, 2), api.ErrOrder},
		{of(2, 1, 1, 1), api.ErrOrder},
		{of(1, 1, 3, 1, 2, 1), api.ErrOrder},
		{of(1, 1, 3, 1, 3, 1, 4, 1), api.ErrOrder},
	} {
		if e := Validate(x.v); e != x.e {
			t.Errorf("Validate(%v) = %v, want %v", x.v, e, x.e)
		}
	}
}

func TestValidateReturnsFirstError(t *testing.T) {
	for _, x := range []struct {
		name string
		v    api.Vector
		e    api.Errno
	}{
		{"an author out of range and out of order", of(2, 1, 0, 1), api.ErrRange},
		{"a count of 0 out of order", of(2, 1, 1, 0), api.ErrRange},
		{"a count too great out of order", of(2, 1, 2, most+1), api.ErrRange},
		{"order before range", of(2, 1, 1, 1, 0, 0), api.ErrOrder},
		{"order before range at the end", of(3, 1, 3, 1, 4, most+1), api.ErrOrder},
		{"range before order", of(3, 0, 2, 1), api.ErrRange},
		{"range before order at the end", of(1, 1, 2, most+1, 1, 1), api.ErrRange},
	} {
		if e := Validate(x.v); e != x.e {
			t.Errorf("%s: Validate(%v) = %v, want %v", x.name, x.v, e, x.e)
		}
	}
}

// firstError is the list of conditions of P3.1.
func firstError(v api.Vector) api.Errno {
	for i := range v {
		if v[i].Author <= 0 || v[i].Count <= 0 || v[i].Count > most {
			return api.ErrRange
		}
		if i > 0 && v[i-1].Author >= v[i].Author {
			return api.ErrOrder
		}
	}
	return api.OK
}

func TestValidateChangedVectors(t *testing.T) {
	for _, v := range samples() {
		if e := Validate(v); e != api.OK {
			t.Errorf("Validate(%v) = %v", v, e)
		}
		for i := range v {
			for _, changed := range []api.Entry{{Author: v[i].Author}, {Author: 1, Count: 1}, {Count: 1}, {Author: v[i].Author, Count: most + 1}, {Author: math.MaxInt, Count: 1}} {
				w := slices.Clone(v)
				w[i] = changed
				if e, want := Validate(w), firstError(w); e != want {
					t.Errorf("Validate(%v) = %v, want %v", w, e, want)
				}
			}
		}
	}
	for _, v := range malformed() {
		if e := Validate(v); e == api.OK || e != firstError(v) {
			t.Errorf("Validate(%v) = %v, want %v", v, e, firstError(v))
		}
	}
}

// P3.2

func TestGet(t *testing.T) {
	v := of(3, 5, 7, most, 1<<40, 1)
	for _, x := range []struct {
		v             api.Vector
		author, count int
	}{
		{v, 3, 5}, {v, 7, most}, {v, 1 << 40, 1},
		{v, 1, 0}, {v, 2, 0}, {v, 4, 0}, {v, 6, 0}, {v, 8, 0}, {v, 1<<40 - 1, 0}, {v, 1<<40 + 1, 0},
		{v, 0, 0}, {v, -3, 0}, {v, math.MinInt, 0}, {v, math.MaxInt, 0}, {nil, 1, 0}, {nil, 0, 0}, {of(math.MaxInt, 9), math.MaxInt, 9},
	} {
		if got := Get(x.v, x.author); got != x.count {
			t.Errorf("Get(%v, %d) = %d, want %d", x.v, x.author, got, x.count)
		}
	}
}

func TestWith(t *testing.T) {
	v := of(3, 5, 7, 2)
	for _, x := range []struct {
		author, count int
		want          api.Vector
	}{
		{3, 6, of(3, 6, 7, 2)},
		{3, 1, of(3, 1, 7, 2)},
		{3, 5, v},
		{7, most, of(3, 5, 7, most)},
		{3, 0, of(7, 2)},
		{7, 0, of(3, 5)},
		{1, 4, of(1, 4, 3, 5, 7, 2)},
		{4, 4, of(3, 5, 4, 4, 7, 2)},
		{6, 4, of(3, 5, 6, 4, 7, 2)},
		{8, 4, of(3, 5, 7, 2, 8, 4)},
		{math.MaxInt, most, of(3, 5, 7, 2, math.MaxInt, most)},
		{1, 0, v}, {5, 0, v}, {9, 0, v},
	} {
		if got := With(v, x.author, x.count); !slices.Equal(got, x.want) {
			t.Errorf("With(%v, %d, %d) = %v, want %v", v, x.author, x.count, got, x.want)
		}
	}
	if got := With(nil, 1, 1); !slices.Equal(got, of(1, 1)) {
		t.Errorf("With(nil, 1, 1) = %v", got)
	}
	if got := With(of(1, 1), 1, 0); len(got) != 0 {
		t.Errorf("With of the only entry and 0 = %v", got)
	}
}

func TestWithOutOfRange(t *testing.T) {
	for _, v := range []api.Vector{nil, of(1, 1), of(3, 5, 7, 2)} {
		for _, x := range [][2]int{
			{0, 1}, {0, 0}, {-1, 1}, {-3, 5}, {math.MinInt, 1}, {0, most + 1}, {-1, -1},
			{1, -1}, {3, -1}, {7, math.MinInt}, {1, most + 1}, {3, most + 1}, {4, most + 1}, {7, math.MaxInt},
		} {
			if got := With(v, x[0], x[1]); !slices.Equal(got, v) {
				t.Errorf("With(%v, %d, %d) = %v", v, x[0], x[1], got)
			}
		}
	}
}

func TestWithAndGetFollowTheModel(t *testing.T) {
	for _, v := range append(samples(), small()...) {
		asked := []int{1, 2, 3, 5, 1 << 39, math.MaxInt}
		for _, e := range v {
			asked = append(asked, e.Author-1, e.Author, e.Author+1)
		}
		for _, author := range asked {
			if got, want := Get(v, author), model(v)[author]; got != want {
				t.Errorf("Get(%v, %d) = %d, want %d", v, author, got, want)
			}
			if author < 1 {
				continue
			}
			for _, count := range []int{0, 1, most} {
				want := model(v)
				want[author] = count
				if got := With(v, author, count); !slices.Equal(got, want.vector()) {
					t.Errorf("With(%v, %d, %d) = %v, want %v", v, author, count, got, want.vector())
				}
			}
		}
	}
}

// P3.3

func TestLatticeExamples(t *testing.T) {
	for _, x := range []struct {
		a, b, join, meet api.Vector
		order            Order
	}{
		{of(1, 2, 3, 1), of(1, 1, 2, 5), of(1, 2, 2, 5, 3, 1), of(1, 1), Concurrent},
		{nil, nil, nil, nil, Equal},
		{nil, of(4, 1), of(4, 1), nil, Less},
		{of(4, 1), nil, of(4, 1), nil, Greater},
		{of(4, 2), of(4, 2), of(4, 2), of(4, 2), Equal},
		{of(1, 1), of(1, 2), of(1, 2), of(1, 1), Less},
		{of(1, most), of(1, most-1), of(1, most), of(1, most-1), Greater},
		{of(1, 1), of(2, 1), of(1, 1, 2, 1), nil, Concurrent},
		{of(2, 1), of(1, 1), of(1, 1, 2, 1), nil, Concurrent},
		{of(2, 1), of(1, 1, 2, 1, 3, 1), of(1, 1, 2, 1, 3, 1), of(2, 1), Less},
		{of(1, 1, 2, 1), of(1, 1), of(1, 1, 2, 1), of(1, 1), Greater},
		{of(1, 2, 2, 1), of(1, 1, 2, 2), of(1, 2, 2, 2), of(1, 1, 2, 1), Concurrent},
		{of(1, 1, 2, 3), of(1, 2, 2, 1), of(1, 2, 2, 3), of(1, 1, 2, 1), Concurrent},
		{of(math.MaxInt, 1), of(1, 1), of(1, 1, math.MaxInt, 1), nil, Concurrent},
	} {
		checkPair(t, x.a, x.b, x.join, x.meet, x.order)
	}
}

// checkPair checks what Join, Meet, LessEqual and Compare return for a and b.
func checkPair(t *testing.T, a, b, join, meet api.Vector, order Order) {
	t.Helper()
	if got := Join(a, b); !slices.Equal(got, join) {
		t.Errorf("Join(%v, %v) = %v, want %v", a, b, got, join)
	}
	if got := Meet(a, b); !slices.Equal(got, meet) {
		t.Errorf("Meet(%v, %v) = %v, want %v", a, b, got, meet)
	}
	if got := Compare(a, b); got != order {
		t.Errorf("Compare(%v, %v) = %v, want %v", a, b, got, order)
	}
	if got := LessEqual(a, b); got != (order == Equal || order == Less) {
		t.Errorf("LessEqual(%v, %v) = %v, but their order is %v", a, b, got, order)
	}
}

// checkModel checks what Join, Meet, LessEqual and Compare return for a and b against the model.
func checkModel(t *testing.T, a, b api.Vector) {
	t.Helper()
	m, n := model(a), model(b)
	checkPair(t, a, b, modelJoin(m, n).vector(), modelMeet(m, n).vector(), modelCompare(m, n))
}

func TestLatticeFollowsTheModel(t *testing.T) {
	for _, list := range [][]api.Vector{small(), samples()} {
		for _, a := range list {
			for _, b := range list {
				checkModel(t, a, b)
			}
		}
	}
}

func TestOrderNumbers(t *testing.T) {
	if Equal != 0 || Less != 1 || Greater != 2 || Concurrent != 3 {
		t.Errorf("Equal, Less, Greater, Concurrent = %d, %d, %d, %d", Equal, Less, Greater, Concurrent)
	}
}

func TestSize(t *testing.T) {
	for _, x := range []struct {
		v    api.Vector
		size int
	}{
		{nil, 0}, {of(9, 1), 1}, {of(1, 2, 3, 4), 6}, {of(1, most, 2, most, 1<<40, most), 3 * most},
	} {
		if got := Size(x.v); got != x.size {
			t.Errorf("Size(%v) = %d, want %d", x.v, got, x.size)
		}
	}
}

// P3.4

func same(t *testing.T, law string, left, right api.Vector) {
	t.Helper()
	if !slices.Equal(left, right) {
		t.Errorf("%s: %v is not %v", law, left, right)
	}
}

func TestLawsOfOneVector(t *testing.T) {
	for _, a := range append(small(), samples()...) {
		same(t, "a join a = a", Join(a, a), a)
		same(t, "a meet a = a", Meet(a, a), a)
		same(t, "a join nothing = a", Join(a, nil), a)
		same(t, "a meet nothing = nothing", Meet(a, nil), nil)
		if Compare(a, a) != Equal || !LessEqual(a, a) || !LessEqual(nil, a) {
			t.Errorf("%v: Compare with itself is %v", a, Compare(a, a))
		}
	}
}

func TestLawsOfTwoVectors(t *testing.T) {
	opposite := []Order{Equal: Equal, Less: Greater, Greater: Less, Concurrent: Concurrent}
	for _, list := range [][]api.Vector{small(), samples()} {
		for _, a := range list {
			for _, b := range list {
				join, meet := Join(a, b), Meet(a, b)
				if Validate(join) != api.OK || Validate(meet) != api.OK {
					t.Errorf("Join %v or Meet %v is not valid", join, meet)
				}
				same(t, "a join b = b join a", join, Join(b, a))
				same(t, "a meet b = b meet a", meet, Meet(b, a))
				same(t, "a join (a meet b) = a", Join(a, meet), a)
				same(t, "a meet (a join b) = a", Meet(a, join), a)
				below := LessEqual(a, b)
				if below != slices.Equal(join, b) || below != slices.Equal(meet, a) {
					t.Errorf("LessEqual(%v, %v) = %v with Join %v and Meet %v", a, b, below, join, meet)
				}
				if !LessEqual(meet, a) || !LessEqual(a, join) {
					t.Errorf("%v is not between %v and %v", a, meet, join)
				}
				if Compare(b, a) != opposite[Compare(a, b)] {
					t.Errorf("Compare(%v, %v) = %v and exchanged %v", a, b, Compare(a, b), Compare(b, a))
				}
				if below && Size(a) == Size(b) && !slices.Equal(a, b) {
					t.Errorf("%v is below %v with the same Size %d", a, b, Size(a))
				}
				if Size(join)+Size(meet) != Size(a)+Size(b) {
					t.Errorf("%v, %v: Size %d + %d of Join and Meet", a, b, Size(join), Size(meet))
				}
			}
		}
	}
}

func TestLawsOfThreeVectors(t *testing.T) {
	few := samples()[:30]
	for _, list := range [][]api.Vector{small(), few} {
		for _, a := range list {
			for _, b := range list {
				for _, c := range list {
					same(t, "join is associative", Join(a, Join(b, c)), Join(Join(a, b), c))
					same(t, "meet is associative", Meet(a, Meet(b, c)), Meet(Meet(a, b), c))
					same(t, "meet distributes over join", Meet(a, Join(b, c)), Join(Meet(a, b), Meet(a, c)))
					same(t, "join distributes over meet", Join(a, Meet(b, c)), Meet(Join(a, b), Join(a, c)))
					if LessEqual(a, b) && LessEqual(b, c) && !LessEqual(a, c) {
						t.Errorf("LessEqual is not transitive: %v, %v, %v", a, b, c)
					}
				}
			}
		}
	}
}

// R1

// callAll calls all functions with a, b and two numbers.
func callAll(a, b api.Vector, author, count int) {
	Validate(a)
	Get(a, author)
	With(a, author, count)
	Join(a, b)
	Meet(a, b)
	LessEqual(a, b)
	Compare(a, b)
	Size(a)
}

func TestMalformedVectors(t *testing.T) {
	list := append(malformed(), nil, of(1, 1), of(1, 1, 2, 2, 3, 3))
	numbers := []int{math.MinInt, -1, 0, 1, 2, 3, most, most + 1, math.MaxInt}
	for _, a := range list {
		for _, b := range list {
			beforeA, beforeB := slices.Clone(a), slices.Clone(b)
			for _, author := range numbers {
				for _, count := range numbers {
					callAll(a, b, author, count)
				}
			}
			if !slices.Equal(a, beforeA) || !slices.Equal(b, beforeB) {
				t.Fatalf("the arguments have become %v, %v", a, b)
			}
		}
	}
}

// R2

// overwrite changes all entries of v, and those behind it that an append could reach.
func overwrite(v api.Vector) {
	v = v[:cap(v)]
	for i := range v {
		v[i] = api.Entry{Author: -7, Count: -7}
	}
}

// withRoom returns a copy of v with room behind it into which an append could write.
func withRoom(v api.Vector) api.Vector {
	out := make(api.Vector, len(v)+10)
	return out[:copy(out, v)]
}

func TestResultsAreNewMemory(t *testing.T) {
	functions := map[string]func(a, b api.Vector) api.Vector{
		"Join":                 Join,
		"Meet":                 Meet,
		"With unchanged":       func(a, _ api.Vector) api.Vector { return With(a, 0, 1) },
		"With a count too big": func(a, _ api.Vector) api.Vector { return With(a, 1, most+1) },
		"With the same count":  func(a, _ api.Vector) api.Vector { return With(a, 1, Get(a, 1)) },
		"With another count":   func(a, _ api.Vector) api.Vector { return With(a, 2, 9) },
		"With a new author":    func(a, _ api.Vector) api.Vector { return With(a, 5, 9) },
		"With the last left":   func(a, _ api.Vector) api.Vector { return With(a, 4, 0) },
		"With the first left":  func(a, _ api.Vector) api.Vector { return With(a, 1, 0) },
	}
	for name, f := range functions {
		for _, a := range small() {
			for _, b := range small() {
				x, y := withRoom(a), withRoom(b)
				first, second := f(x, y), f(x, y)
				want := slices.Clone(first)
				for i, v := range []api.Vector{x, y} {
					if argument := []api.Vector{a, b}[i]; !slices.Equal(v[:cap(v)], withRoom(argument)[:cap(v)]) {
						t.Fatalf("%s has written into its argument %v: %v", name, argument, v[:cap(v)])
					}
				}
				overwrite(x)
				overwrite(y)
				if !slices.Equal(first, want) {
					t.Fatalf("%s(%v, %v): the result has changed with the arguments", name, a, b)
				}
				overwrite(first)
				if !slices.Equal(second, want) {
					t.Fatalf("%s(%v, %v): a result has changed with another one", name, a, b)
				}
			}
		}
	}
}

// R5

func TestNilIsEmpty(t *testing.T) {
	empty := api.Vector{}
	for _, a := range []api.Vector{nil, empty} {
		for _, b := range []api.Vector{nil, empty} {
			checkPair(t, a, b, nil, nil, Equal)
			checkPair(t, a, of(1, 1), of(1, 1), nil, Less)
			checkPair(t, of(1, 1), b, of(1, 1), nil, Greater)
		}
		if Validate(a) != api.OK || Get(a, 1) != 0 || Size(a) != 0 || len(With(a, 1, 0)) != 0 || len(With(a, 0, 1)) != 0 {
			t.Errorf("%v: Validate, Get, Size or With", a)
		}
		if got := With(a, 2, 3); !slices.Equal(got, of(2, 3)) {
			t.Errorf("With(%v, 2, 3) = %v", a, got)
		}
	}
}

// R9

func TestLongVectors(t *testing.T) {
	const n = 1 << 20
	even, threes := make(api.Vector, n), make(api.Vector, n)
	for i := range n {
		even[i] = api.Entry{Author: 2*i + 2, Count: most}
		threes[i] = api.Entry{Author: 3*i + 3, Count: 1}
	}
	join, meet := Join(even, threes), Meet(even, threes)
	common := 2 * n / 6
	if len(meet) != common || len(join) != 2*n-common || Validate(join) != api.OK || Validate(meet) != api.OK {
		t.Errorf("Join has %d entries and Meet %d", len(join), len(meet))
	}
	if Size(even) != n*most || Size(join) != n*most+n-common || Size(meet) != common {
		t.Errorf("Size %d, %d, %d", Size(even), Size(join), Size(meet))
	}
	if Compare(even, threes) != Concurrent || Compare(meet, join) != Less || Compare(join, threes) != Greater {
		t.Errorf("Compare of long vectors")
	}
	last := even[n-1].Author
	if got := With(even, last, 7); len(got) != n || Get(got, last) != 7 || Get(even, last) != most || Get(even, last-1) != 0 {
		t.Errorf("With of a long vector has %d entries", len(got))
	}
}

// vectorFrom makes a vector of bytes: of pairs of an author and a count, which are near the bounds of P3.1 if their high bit is set.
func vectorFrom(b []byte) api.Vector {
	var v api.Vector
	for ; len(b) >= 2; b = b[2:] {
		e := api.Entry{Author: int(b[0]), Count: int(b[1])}
		if b[1] >= 128 {
			e.Count = most - 255 + int(b[1]) + int(b[0])%3 - 1
		}
		if b[0] >= 254 {
			e.Author = int(int64(binary.LittleEndian.Uint64([]byte{b[1], 1, 2, 3, 4, 5, 6, b[0] << 7})))
		}
		v = append(v, e)
	}
	return v
}

func FuzzVectors(f *testing.F) {
	f.Add([]byte{1, 2, 3, 1}, []byte{1, 1, 2, 5}, 2, 4)
	f.Add([]byte{2, 1, 1, 1}, []byte{1, 0}, 0, -1)
	f.Add([]byte{1, 255, 253, 200, 254, 9}, []byte{1, 254}, 253, most)
	f.Fuzz(func(t *testing.T, x, y []byte, author, count int) {
		a, b := vectorFrom(x), vectorFrom(y)
		callAll(a, b, author, count)
		if !slices.Equal(a, vectorFrom(x)) || !slices.Equal(b, vectorFrom(y)) {
			t.Errorf("the arguments have become %v, %v", a, b)
		}
		if e, want := Validate(a), firstError(a); e != want {
			t.Errorf("Validate(%v) = %v, want %v", a, e, want)
		}
		if Validate(a) != api.OK || Validate(b) != api.OK {
			return
		}
		checkModel(t, a, b)
		want := model(a)
		if author >= 1 && count >= 0 && count <= most {
			want[author] = count
		}
		if got := With(a, author, count); !slices.Equal(got, want.vector()) {
			t.Errorf("With(%v, %d, %d) = %v, want %v", a, author, count, got, want.vector())
		}
	})
}
