package acceptor

import (
	"math"
	"math/rand"
	"slices"
	"testing"

	"elasticstore/api"
	"elasticstore/vector"
)

const most = 1000000 // the greatest count of P3.1

// of returns a vector of pairs of an author and a count.
func of(pairs ...int) api.Vector {
	var v api.Vector
	for p := range slices.Chunk(pairs, 2) {
		v = append(v, api.Entry{Author: p[0], Count: p[1]})
	}
	return v
}

// first returns the vector of the authors 1 to n, with that count.
func first(n, count int) api.Vector {
	var v api.Vector
	for i := range n {
		v = append(v, api.Entry{Author: 1 + i, Count: count})
	}
	return v
}

// small returns all vectors of three authors with counts up to 2.
func small() []api.Vector {
	var out []api.Vector
	for i := range 27 {
		var v api.Vector
		for place, author := range []int{1, 2, 4} {
			v = vector.With(v, author, i/[]int{1, 3, 9}[place]%3)
		}
		out = append(out, v)
	}
	return out
}

// random returns a valid vector with up to n authors of 1 to 2n.
func random(r *rand.Rand, n int) api.Vector {
	var v api.Vector
	for range r.Intn(n + 1) {
		v = vector.With(v, 1+r.Intn(2*n), 1+r.Intn(3))
	}
	return v
}

// sequence returns values of very different sizes. Some of them are above all values before them.
func sequence(r *rand.Rand) []api.Vector {
	var values []api.Vector
	var all api.Vector
	for range r.Intn(20) {
		v := random(r, 1+r.Intn(8))
		if r.Intn(3) == 0 {
			v = vector.Join(all, v)
		}
		all = vector.Join(all, v)
		values = append(values, v)
	}
	return values
}

func sameVectors(a, b []api.Vector) bool {
	return slices.EqualFunc(a, b, func(x, y api.Vector) bool { return slices.Equal(x, y) })
}

func cloned(values []api.Vector) []api.Vector {
	var out []api.Vector
	for _, v := range values {
		out = append(out, slices.Clone(v))
	}
	return out
}

// malformed returns vectors that are not valid.
func malformed() []api.Vector {
	return []api.Vector{
		of(0, 0), of(-1, 5), of(1, 0), of(1, -1), of(1, most+1), of(1, math.MinInt), of(math.MinInt, math.MaxInt, math.MaxInt, math.MinInt),
		of(2, 1, 1, 1), of(1, 1, 1, 1), of(1, 1, 1, 2, 1, 3), of(3, 1, 2, 1, 1, 1, 2, 1, 3, 1), of(math.MaxInt, 1, math.MinInt, 1, 0, 1),
	}
}

// P15.1

func TestAccept(t *testing.T) {
	for _, x := range []struct {
		value, v, want api.Vector
		accepted       bool
	}{
		{nil, nil, nil, true},
		{nil, of(1, 1), of(1, 1), true},
		{of(1, 1), of(2, 1), of(1, 1, 2, 1), false},
		{of(2, 1), of(1, 1), of(1, 1, 2, 1), false},
		{of(1, 1), of(1, 1), of(1, 1), true},
		{of(1, 1), of(1, 2), of(1, 2), true},
		{of(1, 2), of(1, 1), of(1, 2), false},
		{of(1, 1), nil, of(1, 1), false},
		{of(2, 1), of(1, 1, 2, 1, 3, 1), of(1, 1, 2, 1, 3, 1), true},
		{of(1, 1, 2, 1), of(1, 5), of(1, 5, 2, 1), false},
		{of(1, 2, 3, 1), of(1, 1, 3, 4), of(1, 2, 3, 4), false},
		{of(1, 2, 3, 1), of(1, 2, 3, 4), of(1, 2, 3, 4), true},
		{of(1, 1, 2, 1), of(1, 1, 3, 9, 4, 9), of(1, 1, 2, 1, 3, 9, 4, 9), false},
		{of(101, most, math.MaxInt, 1), of(101, most, math.MaxInt, most), of(101, most, math.MaxInt, most), true},
		{of(101, most), of(101, most-1), of(101, most), false},
	} {
		a, accepted := Accept(Acceptor{Value: x.value}, x.v)
		if !slices.Equal(a.Value, x.want) || accepted != x.accepted {
			t.Errorf("%v: Accept(%v) = %v, %v, want %v, %v", x.value, x.v, a.Value, accepted, x.want, x.accepted)
		}
	}
}

func TestAcceptFollowsItsDefinition(t *testing.T) {
	for _, value := range small() {
		for _, v := range small() {
			a, accepted := Accept(Acceptor{Value: value}, v)
			if !slices.Equal(a.Value, vector.Join(value, v)) || accepted != vector.LessEqual(value, v) {
				t.Errorf("%v: Accept(%v) = %v, %v", value, v, a.Value, accepted)
			}
		}
	}
}

func TestAcceptAll(t *testing.T) {
	for _, x := range []struct {
		name   string
		value  api.Vector
		values []api.Vector
		want   api.Vector
		report []bool
	}{
		{"no values", of(1, 1, 7, 2), nil, of(1, 1, 7, 2), nil},
		{"nothing at all", nil, nil, nil, nil},
		{"one value", of(1, 1), []api.Vector{of(2, 1)}, of(1, 1, 2, 1), []bool{false}},
		{"empty values", nil, []api.Vector{nil, nil}, nil, []bool{true, true}},
		{"empty values after another one", of(1, 1), []api.Vector{nil, of(1, 1), nil}, of(1, 1), []bool{false, true, false}},
		{"an ascending chain", nil, []api.Vector{nil, of(1, 1), of(1, 1), of(1, 3), of(1, 3, 2, 1)}, of(1, 3, 2, 1), []bool{true, true, true, true, true}},
		{"a descending chain", nil, []api.Vector{of(1, 3, 2, 1), of(1, 3), of(1, 1), nil}, of(1, 3, 2, 1), []bool{true, false, false, false}},
		{"each without the one before", nil, []api.Vector{of(1, 1), of(2, 1), of(3, 1)}, of(1, 1, 2, 1, 3, 1), []bool{true, false, false}},
		{"the join of those that were not accepted", of(1, 1), []api.Vector{of(2, 1), of(1, 1, 2, 1), of(3, 1), of(1, 1, 2, 1, 3, 1)}, of(1, 1, 2, 1, 3, 1), []bool{false, true, false, true}},
		{"a value that lacks one that was not accepted", of(1, 1, 2, 1), []api.Vector{of(3, 1), of(1, 1, 2, 1), of(1, 1, 2, 1, 4, 1), of(1, 1, 2, 1, 3, 1, 4, 1)}, of(1, 1, 2, 1, 3, 1, 4, 1), []bool{false, false, false, true}},
		{"a greater count in one that was not accepted", of(1, 1, 2, 1), []api.Vector{of(1, 5), of(1, 4, 2, 9), of(1, 5, 2, 9)}, of(1, 5, 2, 9), []bool{false, false, true}},
		{"several short values that were not accepted", first(4, 1), []api.Vector{of(1, 2), of(2, 2), of(3, 2), of(4, 2), first(4, 2)}, first(4, 2), []bool{false, false, false, false, true}},
		{"several short values, one of them greater", first(4, 1), []api.Vector{of(1, 2), of(2, 3), of(3, 2), first(4, 2), of(1, 2, 2, 3, 3, 2, 4, 2)}, of(1, 2, 2, 3, 3, 2, 4, 2), []bool{false, false, false, false, true}},
	} {
		a, report := AcceptAll(Acceptor{Value: x.value}, x.values)
		if !slices.Equal(a.Value, x.want) || !slices.Equal(report, x.report) {
			t.Errorf("%s: %v, %v, want %v, %v", x.name, a.Value, report, x.want, x.report)
		}
	}
}

// checkAcceptAll checks that AcceptAll does what Accept does for each of the values in order.
func checkAcceptAll(t *testing.T, value api.Vector, values []api.Vector) {
	t.Helper()
	a, report := AcceptAll(Acceptor{Value: value}, values)
	wanted, want := Acceptor{Value: value}, make([]bool, len(values))
	for i, v := range values {
		wanted, want[i] = Accept(wanted, v)
	}
	if !slices.Equal(a.Value, wanted.Value) || !slices.Equal(report, want) {
		t.Errorf("%v: AcceptAll(%v) = %v, %v, want %v, %v", value, values, a.Value, report, wanted.Value, want)
	}
}

func TestAcceptAllOfShortSequences(t *testing.T) {
	list := small()
	for _, value := range list {
		checkAcceptAll(t, value, nil)
		for _, x := range list {
			checkAcceptAll(t, value, []api.Vector{x})
			for _, y := range list {
				checkAcceptAll(t, value, []api.Vector{x, y})
				for _, z := range list {
					checkAcceptAll(t, nil, []api.Vector{value, x, y, z})
				}
			}
		}
	}
}

func TestAcceptAllOfLongSequences(t *testing.T) {
	r := rand.New(rand.NewSource(15))
	for range 20000 {
		checkAcceptAll(t, random(r, 6), sequence(r))
	}
}

// P15.2

func TestAcceptedValuesAscend(t *testing.T) {
	r := rand.New(rand.NewSource(2))
	for range 5000 {
		a, values := Acceptor{Value: random(r, 3)}, sequence(r)
		_, report := AcceptAll(a, values)
		var accepted []api.Vector
		for i, v := range values {
			next, ok := Accept(a, v)
			if !vector.LessEqual(a.Value, next.Value) || ok != report[i] {
				t.Fatalf("%v: Accept(%v) = %v, %v, and AcceptAll reports %v", a.Value, v, next.Value, ok, report[i])
			}
			a = next
			if !ok {
				continue
			}
			for _, before := range accepted {
				if !vector.LessEqual(before, v) {
					t.Fatalf("%v: %v is accepted after %v", values, v, before)
				}
			}
			accepted = append(accepted, v)
		}
	}
}

func TestAscendingChainsAreAccepted(t *testing.T) {
	r := rand.New(rand.NewSource(3))
	for range 5000 {
		var chain []api.Vector
		var last api.Vector
		for range 1 + r.Intn(10) {
			last = vector.Join(last, random(r, 1+r.Intn(4)))
			chain = append(chain, last)
		}
		below := vector.Meet(chain[0], random(r, 4))
		a, report := AcceptAll(Acceptor{Value: below}, chain)
		if !slices.Equal(a.Value, last) || len(report) != len(chain) || slices.Contains(report, false) {
			t.Fatalf("%v: AcceptAll(%v) = %v, %v", below, chain, a.Value, report)
		}
	}
}

// R1

func TestMalformedVectors(t *testing.T) {
	list := append(malformed(), nil, of(1, 1), of(1, 1, 2, 2, 3, 3))
	for _, value := range list {
		for _, v := range list {
			Accept(Acceptor{Value: value}, v)
			for _, w := range list {
				if _, report := AcceptAll(Acceptor{Value: value}, []api.Vector{v, w, v}); len(report) != 3 {
					t.Errorf("%v: AcceptAll(%v, %v, %v) has %d reports", value, v, w, v, len(report))
				}
			}
		}
	}
}

// R2

// withRoom returns a copy of list with room behind it into which an append could write.
func withRoom[E any](list []E) []E {
	out := make([]E, len(list)+10)
	return out[:copy(out, list)]
}

// overwrite changes all entries of v, and those behind it that an append could reach.
func overwrite(v api.Vector) {
	v = v[:cap(v)]
	for i := range v {
		v[i] = api.Entry{Author: -7, Count: -7}
	}
}

// functions are the ways to propose several values.
func functions() map[string]func(a Acceptor, values []api.Vector) (Acceptor, []bool) {
	return map[string]func(a Acceptor, values []api.Vector) (Acceptor, []bool){
		"AcceptAll": AcceptAll,
		"Accept of the last one": func(a Acceptor, values []api.Vector) (Acceptor, []bool) {
			if len(values) == 0 {
				return AcceptAll(a, nil)
			}
			a, accepted := Accept(a, values[len(values)-1])
			return a, []bool{accepted}
		},
	}
}

// proposals returns what is proposed to an acceptor with the value v.
func proposals(v api.Vector) [][]api.Vector {
	return [][]api.Vector{
		nil, {nil}, {v}, {of(1, 1)}, {of(1, most)}, {v, v}, {nil, v, nil}, {of(9, 1), v}, {v, of(9, 1)}, {of(1, 1), of(1, 1, 2, 2, 4, 2, 9, 9), of(2, 1)},
	}
}

func TestArgumentsAreNotChanged(t *testing.T) {
	for name, f := range functions() {
		for _, value := range small() {
			for _, values := range proposals(value) {
				a, list := Acceptor{Value: withRoom(value)}, withRoom(values)
				for i, v := range list {
					list[i] = withRoom(v)
				}
				before, all := slices.Clone(a.Value[:cap(a.Value)]), cloned(list[:cap(list)])
				f(a, list)
				if !slices.Equal(a.Value[:cap(a.Value)], before) || !sameVectors(list[:cap(list)], all) {
					t.Fatalf("%s(%v, %v) has changed its arguments to %v, %v", name, value, values, a.Value, list)
				}
				for i, v := range list {
					if want := withRoom(values[i]); !slices.Equal(v[:cap(v)], want[:cap(want)]) {
						t.Fatalf("%s(%v, %v) has written into a value: %v", name, value, values, v[:cap(v)])
					}
				}
			}
		}
	}
}

func TestResultsAreNewMemory(t *testing.T) {
	for name, f := range functions() {
		for _, value := range small() {
			for _, values := range proposals(value) {
				a, list := Acceptor{Value: withRoom(value)}, cloned(values)
				one, report := f(a, list)
				other, second := f(a, list)
				want, reported := slices.Clone(one.Value), slices.Clone(report)
				overwrite(a.Value)
				for _, v := range list {
					overwrite(v)
				}
				if !slices.Equal(one.Value, want) {
					t.Fatalf("%s(%v, %v): the result has changed with the arguments", name, value, values)
				}
				overwrite(one.Value)
				for i := range report {
					report[i] = !report[i]
				}
				if !slices.Equal(other.Value, want) || !slices.Equal(second, reported) {
					t.Fatalf("%s(%v, %v): a result has changed with another one", name, value, values)
				}
			}
		}
	}
}

// R5

func TestNilIsEmpty(t *testing.T) {
	empty := api.Vector{}
	for _, value := range []api.Vector{nil, empty} {
		for _, v := range []api.Vector{nil, empty} {
			if a, accepted := Accept(Acceptor{Value: value}, v); len(a.Value) != 0 || !accepted {
				t.Errorf("Accept of an empty value = %v, %v", a, accepted)
			}
			a, report := AcceptAll(Acceptor{Value: value}, []api.Vector{v, of(1, 1), v})
			if !slices.Equal(a.Value, of(1, 1)) || !slices.Equal(report, []bool{true, true, false}) {
				t.Errorf("AcceptAll with empty values = %v, %v", a, report)
			}
		}
		for _, values := range [][]api.Vector{nil, {}} {
			if a, report := AcceptAll(Acceptor{Value: value}, values); len(a.Value) != 0 || len(report) != 0 {
				t.Errorf("AcceptAll without values = %v, %v", a, report)
			}
		}
	}
}

// R9

// Joining every value with all that came before it would take hours here.
func TestManyValues(t *testing.T) {
	const n = 1 << 20
	long := first(n, 1)
	singles, chain := make([]api.Vector, n), make([]api.Vector, n)
	for i := range n {
		singles[i] = of(n-i, 2)
		chain[i] = of(1, 1+i/2)
	}
	for _, x := range []struct {
		name     string
		value    api.Vector
		values   []api.Vector
		want     api.Vector
		accepted int
	}{
		{"an author each", nil, singles, first(n, 2), 1},
		{"an author each to a long value", long, singles, first(n, 2), 0},
		{"an author each, between long values", nil, slices.Concat([]api.Vector{long}, singles, []api.Vector{long, first(n, 2), first(n, 3)}), first(n, 3), 3},
		{"a chain", nil, chain, of(1, n/2), n},
	} {
		a, report := AcceptAll(Acceptor{Value: x.value}, x.values)
		accepted := 0
		for _, ok := range report {
			if ok {
				accepted++
			}
		}
		if !slices.Equal(a.Value, x.want) || len(report) != len(x.values) || accepted != x.accepted {
			t.Errorf("%s: the value has %d entries, %d of %d are accepted", x.name, len(a.Value), accepted, len(report))
		}
	}
	if a, accepted := Accept(Acceptor{Value: long}, first(n, 2)); !accepted || !slices.Equal(a.Value, first(n, 2)) {
		t.Errorf("Accept of a long value: %v", accepted)
	}
	if a, accepted := Accept(Acceptor{Value: long}, first(n-1, 2)); accepted || len(a.Value) != n {
		t.Errorf("Accept of a value without the last author: %v", accepted)
	}
}

// vectorsFrom makes vectors of bytes: of pairs of an author and a count, each vector behind its number of entries.
func vectorsFrom(b []byte) []api.Vector {
	var values []api.Vector
	for len(b) > 0 {
		n := min(int(b[0]%16), (len(b)-1)/2)
		var v api.Vector
		for p := range slices.Chunk(b[1:1+2*n], 2) {
			v = append(v, api.Entry{Author: int(p[0]), Count: int(int8(p[1]))})
		}
		values = append(values, v)
		b = b[1+2*n:]
	}
	return values
}

func FuzzAcceptAll(f *testing.F) {
	f.Add([]byte{1, 1, 1, 1, 2, 1, 2, 1, 1, 2, 1})
	f.Add([]byte{2, 1, 1, 2, 1, 1, 3, 1, 2, 1, 1, 2, 1, 3, 1, 1, 2, 1, 3, 1, 0, 1, 1, 127})
	f.Add([]byte{2, 2, 1, 1, 1, 1, 0, 0, 1, 1, 255})
	f.Fuzz(func(t *testing.T, b []byte) {
		values := vectorsFrom(b)
		var a Acceptor
		if len(values) > 0 {
			a.Value, values = values[0], values[1:]
		}
		value, list := slices.Clone(a.Value), cloned(values)
		AcceptAll(a, values)
		for _, v := range values {
			Accept(a, v)
		}
		if !slices.Equal(a.Value, value) || !sameVectors(values, list) {
			t.Errorf("the arguments have become %v, %v", a.Value, values)
		}
		invalid := func(v api.Vector) bool { return vector.Validate(v) != api.OK }
		if !invalid(a.Value) && !slices.ContainsFunc(values, invalid) {
			checkAcceptAll(t, a.Value, values)
		}
	})
}
