package state

import (
	"bytes"
	"encoding/binary"
	"math"
	"math/rand"
	"reflect"
	"slices"
	"strconv"
	"testing"

	"elasticstore/api"
	"elasticstore/update"
	"elasticstore/vector"
	"elasticstore/wire"
)

// sample returns the update with an identifier that occurs in the states of these tests. Updates differ in their effects,
// too.
func sample(client, seq int) api.Update {
	i := (client-101)*8 + seq // 1 to 48
	name := strconv.Itoa(i)
	if i%5 == 0 {
		return api.Update{Client: client, Seq: seq, Tag: 20 * i, Effects: []api.Effect{{Kind: api.EffectWrite, Object: "o", Field: "f", N: int64(-i), S: name}}}
	}
	effects := []api.Effect{
		{Kind: api.EffectAdd, Object: "o", Field: name, N: int64(i - 24)},
		{Kind: api.EffectInsert, Object: name, Field: "é", S: name + "\xff"},
		{Kind: api.EffectMark, Object: name, Field: "sixteen bytes ok"},
		{Kind: api.EffectRaise, Object: "o", Field: "f", N: math.MinInt64 + int64(i)},
	}
	return api.Update{Client: client, Seq: seq, Effects: effects[:1+i%4]}
}

// marking returns a valid update, if the identifier is valid. It differs from that of sample.
func marking(client, seq int) api.Update {
	return api.Update{Client: client, Seq: seq, Effects: []api.Effect{{Kind: api.EffectMark, Object: "x", Field: "y"}}}
}

// empty returns an update without effects, which is not valid.
func empty(client, seq int) api.Update { return api.Update{Client: client, Seq: seq} }

func of(list ...api.Update) api.State { return list }

// counts is the model of a state: the number of updates of the clients 101 to 106.
type counts [6]int

// state returns the state with the first updates of each client.
func (n counts) state() api.State {
	var s api.State
	for i, count := range n {
		for seq := range count {
			s = append(s, sample(101+i, seq+1))
		}
	}
	return s
}

// vector returns the vector of the counts that are not 0.
func (n counts) vector() api.Vector {
	var v api.Vector
	for i, count := range n {
		if count > 0 {
			v = append(v, api.Entry{Author: 101 + i, Count: count})
		}
	}
	return v
}

// least and greatest return the smaller and the greater count of each client.
func (n counts) least(m counts) counts {
	for i := range n {
		n[i] = min(n[i], m[i])
	}
	return n
}

func (n counts) greatest(m counts) counts {
	for i := range n {
		n[i] = max(n[i], m[i])
	}
	return n
}

var full = counts{8, 8, 8, 8, 8, 8}

// models returns the models of all states with up to most updates of the first two clients and of the last one, and of
// some others from a fixed sequence.
func models(most, others int) []counts {
	out := []counts{full, {8, 0, 8, 0, 8, 0}, {0, 0, 0, 0, 0, 8}}
	for x := range most + 1 {
		for y := range most + 1 {
			for z := range most + 1 {
				out = append(out, counts{x, y, 0, 0, 0, z})
			}
		}
	}
	r := rand.New(rand.NewSource(12))
	for range others {
		var n counts
		for i := range n {
			n[i] = r.Intn(9)
		}
		out = append(out, n)
	}
	return out
}

// malformed returns states that are not valid.
func malformed() []api.State {
	list := counts{3, 2, 0, 0, 0, 1}.state()
	backwards := slices.Clone(list)
	slices.Reverse(backwards)
	return []api.State{
		list[1:], of(list[0], list[2]), of(list[0], list[4]), of(list[0], list[0]), of(list[3], list[0]), backwards, slices.Concat(list, list),
		of(api.Update{}), make(api.State, 60), of(list[0], api.Update{}, list[1]), of(empty(101, 1)), of(list[0], marking(101, 1)),
		of(marking(101, 0)), of(marking(101, 9)), of(marking(100, 1)), of(marking(107, 1)), of(marking(1, 1), list[0]), of(marking(101, -1), list[0]),
		of(marking(math.MinInt, math.MaxInt), marking(math.MaxInt, math.MinInt)), of(marking(101, math.MaxInt), marking(101, math.MinInt)),
		of(marking(101, math.MinInt), marking(101, math.MaxInt), list[3]), of(api.Update{Client: 101, Seq: 1, Effects: make([]api.Effect, 100)}),
		append(full.state(), marking(106, 9)),
	}
}

// same reports whether two lists of updates are equal, by reflection instead of update.Equal.
func same(a, b []api.Update) bool {
	return slices.EqualFunc(a, b, func(u, v api.Update) bool {
		noEffects := len(u.Effects) == 0 && len(v.Effects) == 0
		return u.Client == v.Client && u.Seq == v.Seq && u.Tag == v.Tag && (noEffects || reflect.DeepEqual(u.Effects, v.Effects))
	})
}

// P12.1

func TestValidate(t *testing.T) {
	for _, n := range models(3, 100) {
		if e := Validate(n.state()); e != api.OK {
			t.Errorf("Validate of the state of %v = %v", n, e)
		}
	}
	u := marking
	for _, x := range []struct {
		name string
		s    api.State
		e    api.Errno
	}{
		{"no updates", nil, api.OK},
		{"the same numbers of two clients", of(u(101, 1), u(101, 2), u(106, 1), u(106, 2)), api.OK},

		{"the zero value of an update", of(api.Update{}), api.ErrRange},
		{"client 100", of(u(100, 1)), api.ErrRange},
		{"client 107", of(u(101, 1), u(107, 1)), api.ErrRange},
		{"seq 0", of(u(101, 0)), api.ErrRange},
		{"seq -1", of(u(101, -1)), api.ErrRange},
		{"seq 9", append(counts{8}.state(), u(101, 9)), api.ErrRange},
		{"a tag without a write", of(api.Update{Client: 101, Seq: 1, Tag: 1, Effects: u(101, 1).Effects}), api.ErrInvalid},
		{"no effects", of(u(101, 1), empty(101, 2)), api.ErrInvalid},
		{"five effects", of(api.Update{Client: 101, Seq: 1, Effects: make([]api.Effect, 5)}), api.ErrTooLong},
		{"an effect of no kind", of(api.Update{Client: 101, Seq: 1, Effects: make([]api.Effect, 1)}), api.ErrKind},

		{"an update twice", of(u(101, 1), u(101, 1)), api.ErrOrder},
		{"a second update twice", of(u(101, 1), u(101, 2), u(101, 2)), api.ErrOrder},
		{"an identifier twice with other effects", of(u(101, 1), sample(101, 1)), api.ErrOrder},
		{"clients descending", of(u(102, 1), u(101, 1)), api.ErrOrder},
		{"numbers descending", of(u(101, 1), u(101, 2), u(101, 1)), api.ErrOrder},
		{"a client again", of(u(101, 1), u(102, 1), u(101, 2)), api.ErrOrder},

		{"seq 2 first", of(u(101, 2)), api.ErrGap},
		{"seq 8 first", of(u(106, 8)), api.ErrGap},
		{"seq 3 behind seq 1", of(u(101, 1), u(101, 3)), api.ErrGap},
		{"seq 2 behind seq 1 of another client", of(u(101, 1), u(102, 2)), api.ErrGap},
		{"seq 2 at the end", of(u(101, 1), u(102, 1), u(106, 2)), api.ErrGap},

		{"the error of an update before order", of(u(102, 1), empty(101, 1)), api.ErrInvalid},
		{"the error of an update before order and gap", of(u(102, 1), empty(101, 2)), api.ErrInvalid},
		{"the error of an update before gap", of(empty(101, 2)), api.ErrInvalid},
		{"a range before order", of(u(101, 1), u(101, 0)), api.ErrRange},
		{"a range before gap", of(u(101, 9)), api.ErrRange},
		{"order before gap", of(u(102, 1), u(101, 2)), api.ErrOrder},
		{"order before gap of the same client", of(u(101, 1), u(101, 2), u(101, 3), u(101, 2)), api.ErrOrder},
		{"order before the error of a later update", of(u(101, 1), u(101, 1), empty(101, 1)), api.ErrOrder},
		{"order before a later gap", of(u(102, 1), u(101, 1), u(103, 2)), api.ErrOrder},
		{"gap before the error of a later update", of(u(101, 2), empty(101, 1)), api.ErrGap},
		{"gap before a later order", of(u(101, 2), u(101, 1)), api.ErrGap},
	} {
		if e := Validate(x.s); e != x.e {
			t.Errorf("%s: Validate(%v) = %v, want %v", x.name, x.s, e, x.e)
		}
	}
}

// firstError is the list of conditions of P12.1.
func firstError(s api.State) api.Errno {
	for i, u := range s {
		if e := update.Validate(u); e != api.OK {
			return e
		}
		if i > 0 && (u.Client < s[i-1].Client || u.Client == s[i-1].Client && u.Seq <= s[i-1].Seq) {
			return api.ErrOrder
		}
		if u.Seq >= 2 && (i == 0 || s[i-1].Client != u.Client || s[i-1].Seq+1 != u.Seq) {
			return api.ErrGap
		}
	}
	return api.OK
}

// lists returns all lists of up to most updates of a pool.
func lists(pool []api.Update, most int) []api.State {
	out := []api.State{nil}
	for start, size := 0, 0; size < most; size++ {
		end := len(out)
		for _, s := range out[start:end] {
			for _, u := range pool {
				out = append(out, append(slices.Clip(s), u))
			}
		}
		start = end
	}
	return out
}

func TestValidateReturnsFirstError(t *testing.T) {
	pool := append(counts{3, 3, 0, 0, 0, 2}.state(), api.Update{}, empty(102, 2), marking(102, 9), marking(101, 0), marking(107, 2))
	for _, s := range append(lists(pool, 4), malformed()...) {
		if e := Validate(s); e != firstError(s) {
			t.Errorf("Validate(%v) = %v, want %v", s, e, firstError(s))
		}
	}
}

// P12.2

func TestVector(t *testing.T) {
	for _, n := range models(3, 100) {
		if got := Vector(n.state()); !slices.Equal(got, n.vector()) || vector.Validate(got) != api.OK {
			t.Errorf("Vector of the state of %v = %v", n, got)
		}
	}
}

func TestLatticeExamples(t *testing.T) {
	a := of(sample(101, 1), sample(101, 2), sample(103, 1))
	b := of(sample(101, 1), sample(102, 1), sample(103, 1), sample(103, 2))
	union := of(sample(101, 1), sample(101, 2), sample(102, 1), sample(103, 1), sample(103, 2))
	for _, got := range []api.State{Union(a, b), Union(b, a), Union(union, a), Union(b, union)} {
		if !same(got, union) {
			t.Errorf("a union is %v", got)
		}
	}
	for _, x := range []struct {
		name            string
		a, b            api.State
		contains, equal bool
	}{
		{"two that are not comparable", a, b, false, false},
		{"two that are not comparable, the other way", b, a, false, false},
		{"the union", union, a, true, false},
		{"the union, the other way", a, union, false, false},
		{"the same in other memory", a, counts{2, 0, 1}.state(), true, true},
		{"nothing in a state", a, nil, true, false},
		{"a state in nothing", nil, a, false, false},
		{"nothing and nothing", nil, of(), true, true},
		{"as many updates of another client", a[:1], of(sample(102, 1)), false, false},
		{"the last update missing", a[:2], a, false, false},
	} {
		if got := Contains(x.a, x.b); got != x.contains {
			t.Errorf("%s: Contains = %v", x.name, got)
		}
		if got := Equal(x.a, x.b); got != x.equal {
			t.Errorf("%s: Equal = %v", x.name, got)
		}
	}
}

func TestOperationsOfSets(t *testing.T) {
	for _, n := range models(2, 30) {
		for _, m := range models(2, 30) {
			a, b := n.state(), m.state()
			if got := Union(a, b); !same(got, n.greatest(m).state()) || Validate(got) != api.OK {
				t.Errorf("Union of the states of %v and %v = %v", n, m, got)
			}
			if got := Contains(a, b); got != (n.least(m) == m) {
				t.Errorf("Contains of the states of %v and %v = %v", n, m, got)
			}
			if got := Equal(a, b); got != (n == m) {
				t.Errorf("Equal of the states of %v and %v = %v", n, m, got)
			}
		}
	}
}

// P12.3

func TestAdd(t *testing.T) {
	for _, x := range []struct {
		name string
		n    counts
		u    api.Update
		want counts
		e    api.Errno
	}{
		{"the first update", counts{}, sample(104, 1), counts{0, 0, 0, 1}, api.OK},
		{"at the beginning", counts{0, 2, 3}, sample(101, 1), counts{1, 2, 3}, api.OK},
		{"between others", counts{2, 1, 1}, sample(102, 2), counts{2, 2, 1}, api.OK},
		{"at the end", counts{3, 3, 0, 0, 0, 7}, sample(106, 8), counts{3, 3, 0, 0, 0, 8}, api.OK},
		{"the only one again", counts{1}, sample(101, 1), counts{}, api.ErrDuplicate},
		{"the last one again", counts{0, 0, 3}, sample(103, 3), counts{}, api.ErrDuplicate},
		{"an earlier one again", counts{3, 1}, sample(101, 2), counts{}, api.ErrDuplicate},
		{"an identifier again with other effects", counts{1, 1, 1}, marking(101, 1), counts{}, api.ErrDuplicate},
		{"seq 2 of none", counts{}, sample(101, 2), counts{}, api.ErrGap},
		{"seq 8 of none", counts{8, 0, 8}, sample(102, 8), counts{}, api.ErrGap},
		{"seq 3 behind seq 1", counts{1, 2, 2}, sample(101, 3), counts{}, api.ErrGap},
		{"seq 2 behind seq 1 of another client", counts{1, 0, 1}, sample(102, 2), counts{}, api.ErrGap},
		{"no effects", counts{}, empty(101, 1), counts{}, api.ErrInvalid},
		{"client 107", counts{}, marking(107, 1), counts{}, api.ErrRange},
		{"seq 0", counts{}, marking(101, 0), counts{}, api.ErrRange},
		{"seq 9", counts{8}, marking(101, 9), counts{}, api.ErrRange},
		{"the error of the update before duplicate", counts{1}, empty(101, 1), counts{}, api.ErrInvalid},
		{"the error of the update before gap", counts{1}, empty(101, 3), counts{}, api.ErrInvalid},
		{"a range before gap", counts{1}, marking(101, 10), counts{}, api.ErrRange},
	} {
		if got, e := Add(x.n.state(), x.u); !same(got, x.want.state()) || e != x.e {
			t.Errorf("%s: Add = %v, %v, want the state of %v, %v", x.name, got, e, x.want, x.e)
		}
	}
}

func TestAddEachUpdate(t *testing.T) {
	for _, n := range models(2, 100) {
		for i, u := range full.state() {
			want, wantE := n, api.OK
			want[i/8]++
			switch {
			case u.Seq <= n[i/8]:
				want, wantE = counts{}, api.ErrDuplicate
			case u.Seq > n[i/8]+1:
				want, wantE = counts{}, api.ErrGap
			}
			if got, e := Add(n.state(), u); !same(got, want.state()) || e != wantE {
				t.Errorf("Add of (%d, %d) to the state of %v = %v, %v, want the state of %v, %v", u.Client, u.Seq, n, got, e, want, wantE)
			}
		}
	}
}

// P12.4

func TestBeyond(t *testing.T) {
	s := counts{3, 0, 2, 0, 0, 1}.state()
	have := func(entries ...api.Entry) api.Vector { return entries }
	for _, x := range []struct {
		name string
		s    api.State
		have api.Vector
		n    int
		want []api.Update
		more bool
	}{
		{"the example", counts{3}.state(), have(api.Entry{Author: 101, Count: 1}), 1, of(sample(101, 2)), true},
		{"no updates", nil, nil, 4, nil, false},
		{"no updates and none wanted", nil, nil, 0, nil, false},
		{"all", s, nil, 6, s, false},
		{"as many as there can be", s, nil, math.MaxInt, s, false},
		{"all but one", s, nil, 5, s[:5], true},
		{"the first one", s, nil, 1, s[:1], true},
		{"none wanted", s, nil, 0, nil, true},
		{"fewer than none wanted", s, nil, -1, nil, true},
		{"much fewer than none wanted", s, nil, math.MinInt, nil, true},
		{"none wanted of those that are covered", s, counts{3, 0, 2, 0, 0, 1}.vector(), 0, nil, false},
		{"all are covered", s, counts{3, 0, 2, 0, 0, 1}.vector(), 4, nil, false},
		{"more is covered than there is", s, counts{3, 0, 8, 8, 0, 8}.vector(), 4, nil, false},
		{"one client is covered", s, have(api.Entry{Author: 103, Count: 2}), 4, of(s[0], s[1], s[2], s[5]), false},
		{"the first updates are covered", s, counts{2, 0, 1}.vector(), 3, of(s[2], s[4], s[5]), false},
		{"the first updates are covered and one is wanted", s, counts{2, 0, 1}.vector(), 1, of(s[2]), true},
		{"other processes and great counts", s, have(api.Entry{Author: 1, Count: 8}, api.Entry{Author: 101, Count: 1000000}, api.Entry{Author: 201, Count: 8}), 2, of(s[3], s[4]), true},
	} {
		if got, more := Beyond(x.s, x.have, x.n); !same(got, x.want) || more != x.more {
			t.Errorf("%s: Beyond = %v, %v, want %v, %v", x.name, got, more, x.want, x.more)
		}
	}
}

func TestBeyondOfAll(t *testing.T) {
	for _, n := range models(2, 15) {
		for _, m := range models(2, 15) {
			var rest []api.Update
			for _, u := range n.state() {
				if u.Seq > m[u.Client-101] {
					rest = append(rest, u)
				}
			}
			for size := -1; size <= len(rest)+1; size++ {
				want := rest[:max(0, min(size, len(rest)))]
				if got, more := Beyond(n.state(), m.vector(), size); !same(got, want) || more != (len(want) < len(rest)) {
					t.Errorf("Beyond of the state of %v, the vector of %v and %d = %v, %v", n, m, size, got, more)
				}
			}
		}
	}
}

// P12.5

func TestMerge(t *testing.T) {
	s := sample
	for _, x := range []struct {
		name           string
		n              counts
		list           []api.Update
		want           counts
		added, dropped int
	}{
		{"nothing with nothing", counts{}, nil, counts{}, 0, 0},
		{"nothing", counts{2, 1}, nil, counts{2, 1}, 0, 0},
		{"a state with nothing", counts{}, counts{2, 0, 1}.state(), counts{2, 0, 1}, 3, 0},
		{"the next updates", counts{1, 0, 1}, of(s(101, 2), s(101, 3), s(102, 1), s(103, 2)), counts{3, 1, 2}, 4, 0},
		{"the next updates, clients in any order", counts{0, 0, 1}, of(s(106, 1), s(103, 2), s(101, 1), s(106, 2), s(103, 3)), counts{1, 0, 3, 0, 0, 2}, 5, 0},
		{"updates that occur", counts{2, 1}, of(s(101, 2), s(101, 1), s(102, 1)), counts{2, 1}, 0, 0},
		{"an update that occurs with other effects", counts{2}, of(marking(101, 1), marking(101, 2)), counts{2}, 0, 0},
		{"an update twice", counts{}, of(s(101, 1), s(101, 1)), counts{1}, 1, 0},
		{"an update again with other effects", counts{}, of(s(101, 1), marking(101, 1)), counts{1}, 1, 0},
		{"an update again behind its next one", counts{1}, of(s(101, 2), s(101, 3), s(101, 2)), counts{3}, 2, 0},
		{"a gap", counts{1}, of(s(101, 3), s(102, 1)), counts{1, 1}, 1, 1},
		{"a gap at the beginning", counts{}, of(s(101, 2)), counts{}, 0, 1},
		{"a gap behind another client", counts{1, 0, 1}, of(s(102, 2)), counts{1, 0, 1}, 0, 1},
		{"a gap behind an update of the list", counts{1}, of(s(101, 2), s(101, 4)), counts{2}, 1, 1},
		{"a gap that is closed later", counts{}, of(s(101, 2), s(101, 1), s(101, 2)), counts{2}, 2, 1},
		{"an update with a gap, twice", counts{}, of(s(101, 2), s(101, 2)), counts{}, 0, 2},
		{"updates descending", counts{}, of(s(101, 3), s(101, 2), s(101, 1)), counts{1}, 1, 2},
		{"an update that is not valid", counts{1}, of(empty(101, 2)), counts{1}, 0, 1},
		{"an update that is not valid and occurs", counts{1}, of(empty(101, 1)), counts{1}, 0, 1},
		{"an update that is not valid before a valid one", counts{}, of(empty(101, 1), s(101, 1)), counts{1}, 1, 1},
		{"the zero value", counts{}, make([]api.Update, 3), counts{}, 0, 3},
		{"other processes", counts{1}, of(marking(1, 1), marking(100, 1), marking(107, 1), marking(201, 1)), counts{1}, 0, 4},
		{"numbers that are not valid", counts{8}, of(marking(101, 9), marking(101, 0), marking(102, -1)), counts{8}, 0, 3},
		{"numbers at the ends of their type", counts{1}, of(marking(101, math.MinInt), marking(101, math.MaxInt), marking(math.MinInt, 1), marking(math.MaxInt, 1)), counts{1}, 0, 4},
		{"all with all", full, full.state(), full, 0, 0},
		{"all with nothing", counts{}, full.state(), full, 48, 0},
	} {
		if got, added, dropped := Merge(x.n.state(), x.list); !same(got, x.want.state()) || added != x.added || dropped != x.dropped {
			t.Errorf("%s: Merge = %v, %d, %d, want the state of %v, %d, %d", x.name, got, added, dropped, x.want, x.added, x.dropped)
		}
	}
}

// merged is P12.5, with a list for each client.
func merged(s api.State, updates []api.Update) (api.State, int, int) {
	var own [6][]api.Update
	for _, u := range s {
		own[u.Client-101] = append(own[u.Client-101], u)
	}
	added, dropped := 0, 0
	for _, u := range updates {
		if update.Validate(u) != api.OK || u.Seq-len(own[u.Client-101]) > 1 {
			dropped++
		} else if u.Seq > len(own[u.Client-101]) {
			own[u.Client-101] = append(own[u.Client-101], u)
			added++
		}
	}
	return slices.Concat(own[0], own[1], own[2], own[3], own[4], own[5]), added, dropped
}

func checkMerge(t *testing.T, s api.State, updates []api.Update) {
	t.Helper()
	got, added, dropped := Merge(s, updates)
	want, wantAdded, wantDropped := merged(s, updates)
	if !same(got, want) || added != wantAdded || dropped != wantDropped || Validate(got) != api.OK {
		t.Errorf("Merge(%v, %v) = %v, %d, %d, want %v, %d, %d", s, updates, got, added, dropped, want, wantAdded, wantDropped)
	}
}

func TestMergeOfAllLists(t *testing.T) {
	pool := of(sample(101, 1), sample(101, 2), sample(101, 3), marking(101, 1), marking(101, 2), sample(102, 1), sample(106, 2), empty(101, 1), empty(102, 2), api.Update{})
	for _, list := range lists(pool, 4) {
		for _, n := range []counts{{}, {1}, {2, 1}, {0, 1, 1, 0, 0, 1}} {
			checkMerge(t, n.state(), list)
		}
	}
	for _, n := range models(1, 20) {
		for _, list := range malformed() {
			checkMerge(t, n.state(), list)
		}
	}
}

func TestMergeOfRandomLists(t *testing.T) {
	r := rand.New(rand.NewSource(125))
	pool := append(append(full.state(), full.state()...), api.Update{}, empty(101, 1), empty(103, 4), marking(101, 9), marking(107, 1))
	for _, n := range models(1, 100) {
		for range 30 {
			list := make([]api.Update, r.Intn(200))
			for i := range list {
				u := pool[r.Intn(len(pool))]
				if r.Intn(10) == 0 {
					u = marking(u.Client, u.Seq)
				}
				list[i] = u
			}
			checkMerge(t, n.state(), list)
		}
	}
}

// P12.6

func numbers(list ...uint64) []byte {
	var b []byte
	for _, n := range list {
		b = binary.AppendUvarint(b, n)
	}
	return b
}

func with(parts ...[]byte) []byte { return bytes.Join(parts, nil) }

// encoded returns the encoding of s, from the parts of its updates.
func encoded(s api.State) []byte {
	b := numbers(uint64(len(s)))
	text := func(s string) []byte { return with(numbers(uint64(len(s))), []byte(s)) }
	for _, u := range s {
		b = with(b, numbers(uint64(u.Client), uint64(u.Seq), uint64(u.Tag), uint64(len(u.Effects))))
		for _, e := range u.Effects {
			b = with(b, numbers(uint64(e.Kind)), text(e.Object), text(e.Field), binary.AppendVarint(nil, e.N), text(e.S))
		}
	}
	return b
}

func TestAppend(t *testing.T) {
	mark := []byte{1, 5, 1, 'x', 1, 'y', 0, 0}
	for _, x := range []struct {
		s    api.State
		want []byte
	}{
		{nil, []byte{0}},
		{of(marking(101, 1)), with([]byte{1, 101, 1, 0}, mark)},
		{of(marking(102, 1), marking(102, 2)), with([]byte{2, 102, 1, 0}, mark, []byte{102, 2, 0}, mark)},
	} {
		for _, before := range []string{"", "ab"} {
			if got := Append([]byte(before), x.s); !bytes.Equal(got, with([]byte(before), x.want)) {
				t.Errorf("Append(%q, %v) = %v, want %q and %v", before, x.s, got, before, x.want)
			}
		}
	}
	for _, n := range models(2, 30) {
		want := wire.AppendUint([]byte{7}, uint64(len(n.state())))
		for _, u := range n.state() {
			want = update.Append(want, u)
		}
		if got := Append([]byte{7}, n.state()); !bytes.Equal(got, want) || !bytes.Equal(got[1:], encoded(n.state())) {
			t.Errorf("Append(7, the state of %v) = %v, want %v", n, got, want)
		}
	}
}

func TestDecodeErrors(t *testing.T) {
	u := func(client, seq uint64) []byte { return numbers(client, seq, 0, 1, 5, 1, 'x', 1, 'y', 0, 0) }
	all := encoded(full.state())[1:]
	for _, x := range []struct {
		name string
		b    []byte
		e    api.Errno
	}{
		{"nothing", nil, api.ErrTruncated},
		{"a size that does not end", []byte{128}, api.ErrTruncated},
		{"a size that is overlong", []byte{128, 0}, api.ErrInvalid},
		{"a size too great that is overlong", []byte{177, 0}, api.ErrInvalid},
		{"a size of more than 64 bits", bytes.Repeat([]byte{255}, 10), api.ErrRange},
		{"a size of 49", with([]byte{49}, all, u(107, 1)), api.ErrTooLong},
		{"a size of 49 alone", []byte{49}, api.ErrTooLong},
		{"a size of 2^31", numbers(1 << 31), api.ErrTooLong},
		{"a size of 2^32 + 1", with(numbers(1<<32+1), u(101, 1)), api.ErrTooLong},
		{"a size of 2^64 - 1", numbers(math.MaxUint64), api.ErrTooLong},
		{"a size of 48 alone", []byte{48}, api.ErrTruncated},
		{"an update too few", with([]byte{2}, u(101, 1)), api.ErrTruncated},
		{"a byte too few", with([]byte{48}, all[:len(all)-1]), api.ErrTruncated},
		{"a client that is overlong", []byte{1, 229, 0}, api.ErrInvalid},
		{"a client of 2^31", with([]byte{1}, u(1<<31, 1)), api.ErrRange},
		{"a client of 107", with([]byte{1}, u(107, 1)), api.ErrRange},
		{"a seq of 0", with([]byte{1}, u(101, 0)), api.ErrRange},
		{"no effects", with([]byte{1}, numbers(101, 1, 0, 0)), api.ErrInvalid},
		{"five effects", with([]byte{1}, numbers(101, 1, 0, 5)), api.ErrTooLong},
		{"an effect of an unknown kind", with([]byte{1}, numbers(101, 1, 0, 1, 6, 1, 'x', 1, 'y', 0, 0)), api.ErrKind},
		{"clients descending", with([]byte{2}, u(102, 1), u(101, 1)), api.ErrOrder},
		{"an update twice", with([]byte{2}, u(101, 1), u(101, 1)), api.ErrOrder},
		{"seq 2 first", with([]byte{1}, u(101, 2)), api.ErrGap},
		{"seq 3 behind seq 1", with([]byte{2}, u(101, 1), u(101, 3)), api.ErrGap},

		{"an update cut off before order and gap", with([]byte{3}, u(102, 1), u(101, 1), u(103, 2)[:5]), api.ErrTruncated},
		{"an update cut off before gap", with([]byte{2}, u(101, 2), u(101, 3)[:4]), api.ErrTruncated},
		{"a bad update before order", with([]byte{3}, u(102, 1), u(101, 1), numbers(103, 1, 0, 0)), api.ErrInvalid},
		{"a bad update before gap", with([]byte{2}, u(101, 2), u(107, 1)), api.ErrRange},
		{"a bad update before one cut off", with([]byte{2}, numbers(101, 1, 0, 0), []byte{101}), api.ErrInvalid},
		{"order before gap", with([]byte{2}, u(102, 1), u(101, 2)), api.ErrOrder},
		{"gap before order", with([]byte{2}, u(102, 2), u(101, 1)), api.ErrGap},
	} {
		if s, n, e := Decode(x.b); len(s) != 0 || n != 0 || e != x.e {
			t.Errorf("%s: Decode(%v) = %v, %d, %v, want %v", x.name, x.b, s, n, e, x.e)
		}
	}
}

// decoded is P12.6: what Decode returns for b.
func decoded(b []byte) (api.State, int, api.Errno) {
	size, used, e := wire.Uint(b)
	if e == api.OK && size > 48 {
		e = api.ErrTooLong
	}
	var s api.State
	for uint64(len(s)) < size && e == api.OK {
		u, n, failed := update.Decode(b[used:])
		s, used, e = append(s, u), used+n, failed
	}
	if e == api.OK {
		e = firstError(s)
	}
	if e != api.OK {
		return nil, 0, e
	}
	return s, used, api.OK
}

// checkDecode checks what Decode returns for b, and that it accepts nothing but the encoding of what it returns.
func checkDecode(t *testing.T, b []byte) {
	t.Helper()
	s, n, e := Decode(b)
	want, wantN, wantE := decoded(b)
	if !same(s, want) || n != wantN || e != wantE {
		t.Errorf("Decode(%v) = %v, %d, %v, want %v, %d, %v", b, s, n, e, want, wantN, wantE)
	}
	if e == api.OK && !bytes.Equal(Append(nil, s), b[:n]) {
		t.Errorf("Decode(%v) = %v, %d: it consumes another encoding", b, s, n)
	}
}

// Each byte of an encoding is replaced by bytes at which a decision changes, and left out.
func TestDecodeOfChangedEncodings(t *testing.T) {
	for _, n := range []counts{{}, {1}, {0, 0, 0, 0, 0, 4}, {2, 1, 0, 0, 0, 1}, {1, 1, 1, 1, 1, 1}, {6}} {
		b := encoded(n.state())
		for i := range b {
			for _, x := range []byte{0, 1, 2, 3, 5, 6, 8, 9, 48, 49, 100, 101, 102, 107, 127, 128, 255} {
				changed := bytes.Clone(b)
				changed[i] = x
				checkDecode(t, changed)
				checkDecode(t, changed[:i+1])
			}
			checkDecode(t, with(b[:i], b[i+1:]))
		}
	}
}

// Encodings of lists of updates are decoded although most of them are not states, and with any size in front.
func TestDecodeOfAnyLists(t *testing.T) {
	r := rand.New(rand.NewSource(126))
	pool := append(counts{2, 2, 0, 0, 0, 2}.state(), empty(102, 2), marking(102, 9), marking(107, 2))
	for _, s := range lists(pool, 3) {
		b := encoded(s)
		checkDecode(t, b)
		b[0] = byte(r.Intn(6))
		checkDecode(t, b)
	}
}

func TestPrefixesOfEncodingsAreTruncated(t *testing.T) {
	for _, n := range models(2, 3) {
		b := encoded(n.state())
		for i := range b {
			if s, n, e := Decode(b[:i]); len(s) != 0 || n != 0 || e != api.ErrTruncated {
				t.Errorf("Decode(%v) = %v, %d, %v", b[:i], s, n, e)
			}
		}
	}
}

func TestEncodingsDecode(t *testing.T) {
	for _, n := range models(3, 30) {
		b := Append(nil, n.state())
		for _, tail := range []string{"", "\x00", "\x01", "\x80", "\xff\xff\xff\xff\xff\xff\xff\xff\xff\xff\xff", string(b)} {
			if got, k, e := Decode(with(b, []byte(tail))); !same(got, n.state()) || k != len(b) || e != api.OK {
				t.Errorf("Decode of the encoding of the state of %v = %v, %d, %v", n, got, k, e)
			}
		}
	}
}

// P12.7

func TestLawsOfUnion(t *testing.T) {
	for _, x := range models(1, 8) {
		a := x.state()
		if !same(Union(a, a), a) || !Contains(a, a) || !Equal(a, a) {
			t.Errorf("Union is not idempotent for the state of %v", x)
		}
		for _, y := range models(1, 8) {
			b := y.state()
			union := Union(a, b)
			if !same(union, Union(b, a)) {
				t.Errorf("Union of the states of %v and %v is not commutative", x, y)
			}
			if Contains(a, b) != Equal(union, a) || Contains(a, b) != vector.LessEqual(Vector(b), Vector(a)) {
				t.Errorf("Contains of the states of %v and %v", x, y)
			}
			for _, z := range models(1, 8) {
				if c := z.state(); !same(Union(union, c), Union(a, Union(b, c))) {
					t.Errorf("Union of the states of %v, %v, %v is not associative", x, y, z)
				}
			}
		}
	}
}

func TestTransfer(t *testing.T) {
	for _, x := range models(2, 15) {
		for _, y := range models(1, 15) {
			a := x.state()
			for _, n := range []int{1, 2, 3, api.ChunkSize, 47, 48, math.MaxInt} {
				s, calls := y.state(), 0
				for more := true; more; calls++ {
					var chunk []api.Update
					chunk, more = Beyond(a, Vector(s), n)
					next, added, dropped := Merge(s, chunk)
					if len(chunk) > n || added != len(chunk) || dropped != 0 || calls > len(a) {
						t.Fatalf("from the state of %v to that of %v by %d: call %d passes %d updates and adds %d", x, y, n, calls, len(chunk), added)
					}
					s = next
				}
				if !same(s, Union(a, y.state())) {
					t.Errorf("from the state of %v to that of %v by %d: the end is %v", x, y, n, s)
				}
			}
		}
	}
}

// R1

// callAll calls all functions with a, b and u.
func callAll(a, b api.State, u api.Update) {
	Validate(a)
	Contains(a, b)
	Equal(a, b)
	Union(a, b)
	Add(a, u)
	Beyond(a, Vector(b), 4)
	Merge(a, b)
	Decode(Append(Append(nil, a), b))
}

func TestMalformedStates(t *testing.T) {
	list := append(malformed(), nil, counts{2, 1, 1}.state(), full.state())
	for _, a := range list {
		for _, b := range list {
			callAll(a, b, sample(102, 1))
			callAll(a, b, api.Update{})
		}
		for _, v := range []api.Vector{{{Author: 103, Count: 1}, {Author: 101, Count: 1}}, {{Author: 101, Count: -1}}, make(api.Vector, 5), {{Author: math.MinInt, Count: math.MaxInt}}} {
			Beyond(a, v, 2)
		}
	}
}

// R2

// withRoom returns a copy of list with room behind it into which an append could write.
func withRoom[E any](list []E) []E {
	out := make([]E, len(list)+100)
	return out[:copy(out, list)]
}

// whole returns list with the elements behind it that an append could reach.
func whole[E any](list []E) []E { return list[:cap(list)] }

// roomy returns a copy of list with room behind it and behind each list of effects.
func roomy(list []api.Update) []api.Update {
	out := withRoom(list)
	for i, u := range out {
		out[i].Effects = withRoom(u.Effects)
	}
	return out
}

// unchanged reports whether an argument that roomy has made of list is as it was, with the room behind each list.
func unchanged(argument, list []api.Update) bool {
	if !same(whole(argument), whole(roomy(list))) {
		return false
	}
	return slices.EqualFunc(argument, list, func(u, v api.Update) bool {
		return slices.Equal(whole(u.Effects), whole(withRoom(v.Effects)))
	})
}

// overwrite changes everything that can be reached from list.
func overwrite(list []api.Update) {
	for _, u := range list {
		for i := range whole(u.Effects) {
			whole(u.Effects)[i] = api.Effect{Kind: -7}
		}
	}
	for i := range whole(list) {
		whole(list)[i] = api.Update{Client: -7}
	}
}

func TestArgumentsAreKept(t *testing.T) {
	list := append(malformed(), nil, counts{2, 1, 1}.state(), full.state())
	for _, a := range list {
		for _, b := range list {
			c, d, u := roomy(a), roomy(b), of(sample(103, 1))
			v := roomy(u)
			callAll(c, d, v[0])
			if !unchanged(c, a) || !unchanged(d, b) || !unchanged(v, u) {
				t.Fatalf("arguments have become %v, %v, %v", c, d, v)
			}
		}
		before, have := withRoom([]byte("before")), withRoom(counts{1, 2, 1}.vector())
		Append(before, a)
		Beyond(a, have, 2)
		if !bytes.Equal(whole(before), whole(withRoom([]byte("before")))) || !slices.Equal(whole(have), whole(withRoom(counts{1, 2, 1}.vector()))) {
			t.Fatalf("arguments have become %v, %v", whole(before), whole(have))
		}
		b := withRoom(encoded(a))
		Decode(b)
		if !bytes.Equal(whole(b), whole(withRoom(encoded(a)))) {
			t.Fatalf("Decode has written into its argument: %v", whole(b))
		}
	}
}

// makers returns calls of the functions that return updates.
func makers(a, b api.State, u api.Update, encoding []byte) map[string]func() []api.Update {
	return map[string]func() []api.Update{
		"Union":  func() []api.Update { return Union(a, b) },
		"Add":    func() []api.Update { s, _ := Add(a, u); return s },
		"Beyond": func() []api.Update { list, _ := Beyond(a, Vector(b), 3); return list },
		"Merge":  func() []api.Update { s, _, _ := Merge(a, b); return s },
		"Decode": func() []api.Update { s, _, _ := Decode(encoding); return s },
	}
}

func TestResultsAreNewMemory(t *testing.T) {
	for _, n := range models(1, 3) {
		for _, m := range models(1, 3) {
			u := of(sample(102, min(n[1]+1, 8)))
			a, b, v, encoding := roomy(n.state()), roomy(m.state()), roomy(u), encoded(n.state())
			want, results, others := map[string][]api.Update{}, map[string][]api.Update{}, map[string][]api.Update{}
			for name, call := range makers(n.state(), m.state(), u[0], encoded(n.state())) {
				want[name] = call()
			}
			for name, call := range makers(a, b, v[0], encoding) {
				results[name], others[name] = call(), call()
			}
			overwrite(a)
			overwrite(b)
			overwrite(v)
			clear(encoding)
			for name, list := range results {
				if !same(list, want[name]) {
					t.Fatalf("%s of %v and %v: the result has changed with an argument: %v", name, n, m, list)
				}
				overwrite(list)
			}
			for name, list := range others {
				if !same(list, want[name]) {
					t.Fatalf("%s of %v and %v: a result has changed with another one: %v", name, n, m, list)
				}
			}
		}
	}
}

// The updates of a result share no memory with each other, even if those of the arguments do.
func TestUpdatesShareNoMemory(t *testing.T) {
	effects := marking(101, 1).Effects
	shared := whole(withRoom(effects))[:1]
	u := func(client int) api.Update { return api.Update{Client: client, Seq: 1, Effects: shared} }
	a, b := of(u(101), u(103)), of(u(102), u(103), u(104))
	for name, call := range makers(a, b, u(102), encoded(a)) {
		list := call()
		for i := range list {
			others := slices.Delete(roomy(list), i, i+1)
			for k := range whole(list[i].Effects) {
				whole(list[i].Effects)[k].N++
			}
			if !same(slices.Delete(slices.Clone(list), i, i+1), others) || !slices.Equal(shared, effects) {
				t.Errorf("%s: other updates have changed with update %d: %v", name, i, list)
			}
		}
	}
}

func TestVectorIsNewMemory(t *testing.T) {
	s := full.state()
	v, w := Vector(s), Vector(s)
	clear(whole(v))
	if !slices.Equal(w, full.vector()) {
		t.Errorf("a vector has become %v", w)
	}
}

func TestAppendReturnsNewMemory(t *testing.T) {
	for _, n := range models(1, 3) {
		for _, text := range []string{"", "before"} {
			b, s := withRoom([]byte(text)), roomy(n.state())
			first, second := Append(b, s), Append(b, s)
			want := with([]byte(text), encoded(n.state()))
			overwrite(s)
			clear(whole(b))
			if !bytes.Equal(first, want) {
				t.Fatalf("the result has changed with an argument: %v", first)
			}
			clear(whole(first))
			if !bytes.Equal(second, want) {
				t.Fatalf("a result has changed with another one: %v", second)
			}
		}
	}
}

// R5

func TestNilIsEmpty(t *testing.T) {
	for _, n := range models(2, 10) {
		s, some := n.state(), len(n.state()) > 0
		for _, nothing := range []api.State{nil, {}} {
			if !same(Union(s, nothing), s) || !same(Union(nothing, s), s) {
				t.Errorf("Union of the state of %v and an empty one", n)
			}
			if !Contains(s, nothing) || Contains(nothing, s) == some || Equal(s, nothing) == some || Equal(nothing, s) == some {
				t.Errorf("Contains or Equal of the state of %v and an empty one", n)
			}
			kept, added, dropped := Merge(s, nothing)
			made, all, none := Merge(nothing, s)
			if !same(kept, s) || !same(made, s) || added+dropped+none != 0 || all != len(s) {
				t.Errorf("Merge of the state of %v and an empty one", n)
			}
		}
		for _, nothing := range []api.Vector{nil, {}} {
			if got, more := Beyond(s, nothing, 48); !same(got, s) || more {
				t.Errorf("Beyond of the state of %v and an empty vector = %v, %v", n, got, more)
			}
		}
		if a, b := Append(nil, s), Append([]byte{}, s); !bytes.Equal(a, b) || len(a) == 0 {
			t.Errorf("Append of the state of %v gives %v to nil and %v to an empty slice", n, a, b)
		}
	}
	for _, nothing := range []api.State{nil, {}} {
		s, e := Add(nothing, sample(103, 1))
		if !same(s, of(sample(103, 1))) || e != api.OK || Validate(nothing) != api.OK || len(Vector(nothing)) != 0 || !bytes.Equal(Append(nil, nothing), []byte{0}) {
			t.Errorf("an empty state: Add = %v, %v", s, e)
		}
	}
	for _, b := range [][]byte{nil, {}} {
		if s, n, e := Decode(b); len(s) != 0 || n != 0 || e != api.ErrTruncated {
			t.Errorf("Decode of nothing = %v, %d, %v", s, n, e)
		}
	}
}

// R9

func TestLongArguments(t *testing.T) {
	long := make(api.State, 1<<18)
	for i := range long {
		long[i] = marking(95+i%1000, i%11)
	}
	callAll(long, long, sample(101, 1))
	slices.SortFunc(long, update.Compare)
	callAll(long, long[len(long)/2:], sample(101, 1))
	before := bytes.Repeat([]byte("x"), 1<<24)
	b := Append(before, full.state())
	if !bytes.Equal(b[:len(before)], before) || !bytes.Equal(b[len(before):], encoded(full.state())) {
		t.Errorf("Append behind many bytes")
	}
	after := with(encoded(full.state()), before)
	if s, n, e := Decode(after); !same(s, full.state()) || n != len(after)-len(before) || e != api.OK {
		t.Errorf("Decode before many bytes = %v, %d, %v", s, n, e)
	}
}

func TestMergeOfLongLists(t *testing.T) {
	all := full.state()
	backwards := slices.Clone(all)
	slices.Reverse(backwards)
	for _, x := range []struct {
		name    string
		n       counts
		list    []api.Update
		want    counts
		dropped int
	}{
		{"all updates in order", counts{}, slices.Repeat(all, 1<<14), full, 0},
		{"all updates backwards", counts{}, slices.Repeat(backwards, 1<<14), full, 6 * 28},
		{"updates behind a gap", counts{6, 6, 6, 6, 6, 6}, slices.Repeat([]api.Update{sample(103, 8)}, 1<<20), counts{6, 6, 6, 6, 6, 6}, 1 << 20},
		{"updates that are not valid", counts{1}, make([]api.Update, 1<<20), counts{1}, 1 << 20},
	} {
		got, added, dropped := Merge(x.n.state(), x.list)
		if !same(got, x.want.state()) || added != len(got)-len(x.n.state()) || dropped != x.dropped {
			t.Errorf("%s: Merge = %v, %d, %d, want the state of %v and %d dropped", x.name, got, added, dropped, x.want, x.dropped)
		}
	}
}

func FuzzDecode(f *testing.F) {
	for _, n := range models(1, 2) {
		f.Add(encoded(n.state()))
	}
	f.Add([]byte{49})
	f.Add(encoded(of(marking(101, 2))))
	f.Add(encoded(of(marking(102, 1), marking(101, 1))))
	f.Fuzz(func(t *testing.T, b []byte) {
		before := bytes.Clone(b)
		checkDecode(t, b)
		if !bytes.Equal(b, before) {
			t.Errorf("Decode has changed %v to %v", before, b)
		}
	})
}

func FuzzMerge(f *testing.F) {
	f.Add([]byte{0, 1, 2}, []byte{3, 1, 8})
	f.Add([]byte{}, []byte{1, 0, 100, 101, 50})
	f.Fuzz(func(t *testing.T, known, list []byte) {
		var n counts
		for i := range n[:min(len(known), 6)] {
			n[i] = int(known[i]) % 9
		}
		var updates []api.Update
		for _, x := range list {
			client, seq := 101+int(x)%6, int(x)/6%10
			switch {
			case x >= 180:
				updates = append(updates, empty(client, seq))
			case x >= 120:
				updates = append(updates, marking(client, seq))
			default:
				updates = append(updates, sample(client, seq))
			}
		}
		checkMerge(t, n.state(), updates)
	})
}
