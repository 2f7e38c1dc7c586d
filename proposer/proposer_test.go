package proposer

import (
	"fmt"
	"math"
	"math/rand"
	"slices"
	"testing"

	"elasticstore/acceptor"
	"elasticstore/api"
	"elasticstore/vector"
)

const most = 1000000 // the greatest count of P3.1

// of returns a vector of pairs of an author and a count.
func of(pairs ...int) api.Vector {
	var v api.Vector
	for p := range slices.Chunk(pairs, 2) {
		v = append(v, api.Entry{Author: p[0], Count: p[1]})
	}
	return v
}

// first returns the vector of the authors 1 to n, with that count.
func first(n, count int) api.Vector {
	var v api.Vector
	for i := range n {
		v = append(v, api.Entry{Author: 1 + i, Count: count})
	}
	return v
}

// small returns all vectors of two authors with counts up to 2.
func small() []api.Vector {
	var out []api.Vector
	for i := range 9 {
		out = append(out, vector.With(vector.With(nil, 1, i/3), 4, i%3))
	}
	return out
}

// random returns a valid vector with up to n authors of 1 to 2n.
func random(r *rand.Rand, n int) api.Vector {
	var v api.Vector
	for range r.Intn(n + 1) {
		v = vector.With(v, 1+r.Intn(2*n), 1+r.Intn(3))
	}
	return v
}

func same(p, q Proposer) bool {
	return p.Acceptors == q.Acceptors && slices.Equal(p.Value, q.Value) && p.Round == q.Round && slices.Equal(p.Acks, q.Acks) && p.Decided == q.Decided
}

// copied returns a proposer equal to p that shares no memory with it.
func copied(p Proposer) Proposer {
	p.Value, p.Acks = slices.Clone(p.Value), slices.Clone(p.Acks)
	return p
}

// received is Receive by its definition.
func received(p Proposer, acceptor, round int, value api.Vector) (Proposer, bool) {
	p = copied(p)
	if p.Decided || round != p.Round || acceptor < 0 || acceptor > p.Acceptors-1 {
		return p, false
	}
	if !vector.LessEqual(value, p.Value) {
		return Proposer{Acceptors: p.Acceptors, Value: vector.Join(p.Value, value), Round: round + 1}, true
	}
	p.Acks = append(p.Acks, acceptor)
	slices.Sort(p.Acks)
	p.Acks = slices.Compact(p.Acks)
	p.Decided = len(p.Acks) >= p.Acceptors/2+1
	return p, false
}

// proposed is Propose by its definition.
func proposed(p Proposer, v api.Vector) Proposer {
	if !p.Decided {
		return copied(p)
	}
	return Proposer{Acceptors: p.Acceptors, Value: vector.Join(p.Value, v), Round: p.Round + 1}
}

// decided returns a proposer of n acceptors that has decided v in round 1.
func decided(n int, v api.Vector) Proposer {
	p := New(n, v)
	for i := range n {
		p, _ = Receive(p, i, 1, v)
	}
	return p
}

// reachable returns proposers that the functions return for small values, up to round 3.
func reachable(acceptors int) []Proposer {
	values := []api.Vector{nil, of(1, 1), of(4, 1), of(1, 1, 4, 1)}
	var list []Proposer
	seen := map[string]bool{}
	add := func(p Proposer) {
		if key := fmt.Sprint(p); p.Round <= 3 && !seen[key] {
			seen[key] = true
			list = append(list, p)
		}
	}
	for _, v := range values {
		add(New(acceptors, v))
	}
	for i := 0; i < len(list); i++ {
		for _, v := range values {
			add(Propose(list[i], v))
			for acceptor := range acceptors {
				next, _ := Receive(list[i], acceptor, list[i].Round, v)
				add(next)
			}
		}
	}
	return list
}

// states returns proposers in all situations.
func states() []Proposer {
	var list []Proposer
	for _, acceptors := range []int{1, 2, 3, 4, 5} {
		list = append(list, reachable(acceptors)...)
	}
	return list
}

// malformed returns vectors that are not valid.
func malformed() []api.Vector {
	return []api.Vector{
		of(0, 0), of(-1, 5), of(1, 0), of(1, -1), of(1, most+1), of(1, math.MinInt), of(math.MinInt, math.MaxInt, math.MaxInt, math.MinInt),
		of(2, 1, 1, 1), of(1, 1, 1, 1), of(1, 1, 1, 2, 1, 3), of(3, 1, 2, 1, 1, 1, 2, 1, 3, 1), of(math.MaxInt, 1, math.MinInt, 1, 0, 1),
	}
}

// P16.1

func TestNew(t *testing.T) {
	for acceptors := 1; acceptors <= api.MaxServers; acceptors++ {
		for _, v := range append(small(), of(101, most, math.MaxInt, 1), first(100, 7)) {
			if p := New(acceptors, v); !same(p, Proposer{Acceptors: acceptors, Value: v, Round: 1}) {
				t.Errorf("New(%d, %v) = %v", acceptors, v, p)
			}
		}
	}
}

// P16.2

func TestReceive(t *testing.T) {
	value := of(1, 2, 4, 1)
	start := New(5, value)
	one := Proposer{Acceptors: 5, Value: value, Round: 1, Acks: []int{2}}
	two := Proposer{Acceptors: 5, Value: value, Round: 1, Acks: []int{1, 3}}
	last := Proposer{Acceptors: 5, Value: value, Round: 4, Acks: []int{0, 4}}
	done := Proposer{Acceptors: 5, Value: value, Round: 1, Acks: []int{0, 1, 3}, Decided: true}
	even := Proposer{Acceptors: 4, Value: value, Round: 1, Acks: []int{0}}
	for _, x := range []struct {
		name            string
		p               Proposer
		acceptor, round int
		value           api.Vector
		want            Proposer
		again           bool
	}{
		{"the first acknowledgement", start, 2, 1, value, one, false},
		{"of a smaller value", start, 2, 1, of(1, 2), one, false},
		{"of a value with a smaller count", start, 2, 1, of(1, 1, 4, 1), one, false},
		{"of the empty value", start, 2, 1, nil, one, false},
		{"of the first acceptor", start, 0, 1, value, Proposer{Acceptors: 5, Value: value, Round: 1, Acks: []int{0}}, false},
		{"of the last acceptor", start, 4, 1, value, Proposer{Acceptors: 5, Value: value, Round: 1, Acks: []int{4}}, false},
		{"before the others", two, 0, 1, value, Proposer{Acceptors: 5, Value: value, Round: 1, Acks: []int{0, 1, 3}, Decided: true}, false},
		{"between the others", two, 2, 1, value, Proposer{Acceptors: 5, Value: value, Round: 1, Acks: []int{1, 2, 3}, Decided: true}, false},
		{"behind the others", two, 4, 1, nil, Proposer{Acceptors: 5, Value: value, Round: 1, Acks: []int{1, 3, 4}, Decided: true}, false},
		{"in a later round", last, 1, 4, value, Proposer{Acceptors: 5, Value: value, Round: 4, Acks: []int{0, 1, 4}, Decided: true}, false},
		{"again", one, 2, 1, value, one, false},
		{"again, without a majority", two, 3, 1, value, two, false},
		{"half of the acceptors", even, 3, 1, value, Proposer{Acceptors: 4, Value: value, Round: 1, Acks: []int{0, 3}}, false},
		{"acceptor below 0", one, -1, 1, value, one, false},
		{"acceptor far below 0", one, math.MinInt, 1, value, one, false},
		{"acceptor above the last", one, 5, 1, value, one, false},
		{"acceptor far above the last", one, math.MaxInt, 1, value, one, false},
		{"unknown acceptor with a greater value", one, 5, 1, of(7, 1), one, false},
		{"acceptor below 0 with a greater value", one, -1, 1, of(7, 1), one, false},
		{"an earlier round", last, 1, 3, value, last, false},
		{"a later round", last, 1, 5, value, last, false},
		{"an earlier round with a greater value", last, 1, 3, of(7, 1), last, false},
		{"a later round with a greater value", last, 1, 5, of(7, 1), last, false},
		{"round 0", one, 1, 0, value, one, false},
		{"round below 0", one, 1, -1, value, one, false},
		{"decided", done, 2, 1, value, done, false},
		{"decided, with a greater value", done, 2, 1, of(7, 1), done, false},
		{"a value with another author", two, 2, 1, of(2, 1), Proposer{Acceptors: 5, Value: of(1, 2, 2, 1, 4, 1), Round: 2}, true},
		{"a value with a greater count", two, 2, 1, of(1, 3), Proposer{Acceptors: 5, Value: of(1, 3, 4, 1), Round: 2}, true},
		{"a value that is above", two, 2, 1, of(1, 2, 4, 1, 5, 1), Proposer{Acceptors: 5, Value: of(1, 2, 4, 1, 5, 1), Round: 2}, true},
		{"a greater value of an acceptor that has accepted", two, 3, 1, of(4, 9), Proposer{Acceptors: 5, Value: of(1, 2, 4, 9), Round: 2}, true},
		{"a greater value in a later round", last, 2, 4, of(4, most), Proposer{Acceptors: 5, Value: of(1, 2, 4, most), Round: 5}, true},
		{"the only acceptor", New(1, value), 0, 1, value, Proposer{Acceptors: 1, Value: value, Round: 1, Acks: []int{0}, Decided: true}, false},
		{"the only acceptor, the empty value", New(1, nil), 0, 1, nil, Proposer{Acceptors: 1, Round: 1, Acks: []int{0}, Decided: true}, false},
		{"no second acceptor", New(1, value), 1, 1, value, New(1, value), false},
	} {
		if p, again := Receive(x.p, x.acceptor, x.round, x.value); !same(p, x.want) || again != x.again {
			t.Errorf("%s: %v, %v, want %v, %v", x.name, p, again, x.want, x.again)
		}
	}
}

func TestReceiveFollowsItsDefinition(t *testing.T) {
	for _, p := range states() {
		for acceptor := -2; acceptor <= p.Acceptors+1; acceptor++ {
			for round := -1; round <= p.Round+2; round++ {
				for _, value := range small() {
					got, again := Receive(p, acceptor, round, value)
					if want, wantAgain := received(p, acceptor, round, value); !same(got, want) || again != wantAgain {
						t.Fatalf("Receive(%v, %d, %d, %v) = %v, %v, want %v, %v", p, acceptor, round, value, got, again, want, wantAgain)
					}
				}
			}
		}
	}
}

// The acknowledgements are ascending, in whatever order they come, and a majority of the acceptors decides.
func TestMajorities(t *testing.T) {
	r := rand.New(rand.NewSource(16))
	needed := []int{1: 1, 2: 2, 3: 2, 4: 3, 5: 3, 6: 4, 7: 4, 8: 5, 9: 5, 10: 6, 11: 6, 12: 7}
	for acceptors := 1; acceptors <= api.MaxServers; acceptors++ {
		for range 200 {
			p := New(acceptors, of(1, 1))
			order := r.Perm(acceptors)
			for i, acceptor := range order[:needed[acceptors]] {
				if p.Decided {
					t.Fatalf("%v has decided with %d acknowledgements", p, i)
				}
				for range 2 { // the second one changes nothing
					var again bool
					p, again = Receive(p, acceptor, 1, of(1, 1))
					want := slices.Sorted(slices.Values(order[:i+1]))
					if !slices.Equal(p.Acks, want) || again {
						t.Fatalf("after %v: %v, %v", order[:i+1], p, again)
					}
				}
			}
			if !p.Decided || !slices.Equal(p.Value, of(1, 1)) || p.Round != 1 {
				t.Fatalf("%v has not decided with %d acknowledgements", p, needed[acceptors])
			}
		}
	}
}

// P16.3

func TestPropose(t *testing.T) {
	done := Proposer{Acceptors: 3, Value: of(1, 2), Round: 4, Acks: []int{0, 2}, Decided: true}
	waiting := Proposer{Acceptors: 3, Value: of(1, 2), Round: 4, Acks: []int{2}}
	for _, x := range []struct {
		p    Proposer
		v    api.Vector
		want Proposer
	}{
		{done, of(2, 1), Proposer{Acceptors: 3, Value: of(1, 2, 2, 1), Round: 5}},
		{done, of(1, 3), Proposer{Acceptors: 3, Value: of(1, 3), Round: 5}},
		{done, of(1, 1), Proposer{Acceptors: 3, Value: of(1, 2), Round: 5}},
		{done, of(1, 2), Proposer{Acceptors: 3, Value: of(1, 2), Round: 5}},
		{done, nil, Proposer{Acceptors: 3, Value: of(1, 2), Round: 5}},
		{waiting, of(2, 1), waiting},
		{waiting, nil, waiting},
		{New(3, of(1, 2)), of(2, 1), New(3, of(1, 2))},
		{New(1, nil), of(2, 1), New(1, nil)},
		{decided(1, nil), of(2, 1), Proposer{Acceptors: 1, Value: of(2, 1), Round: 2}},
		{decided(1, nil), nil, Proposer{Acceptors: 1, Round: 2}},
		{decided(12, of(1, 1)), of(1, most, math.MaxInt, most), Proposer{Acceptors: 12, Value: of(1, most, math.MaxInt, most), Round: 2}},
	} {
		if p := Propose(x.p, x.v); !same(p, x.want) {
			t.Errorf("Propose(%v, %v) = %v, want %v", x.p, x.v, p, x.want)
		}
	}
}

func TestProposeFollowsItsDefinition(t *testing.T) {
	for _, p := range states() {
		for _, v := range small() {
			if got, want := Propose(p, v), proposed(p, v); !same(got, want) {
				t.Fatalf("Propose(%v, %v) = %v, want %v", p, v, got, want)
			}
		}
	}
}

// P16.4

func TestRoundsOfProposals(t *testing.T) {
	r := rand.New(rand.NewSource(4))
	for range 2000 {
		p := New(1+r.Intn(api.MaxServers), random(r, 3))
		rounds, increases := 1, 0 // of the proposal
		for range 100 {
			before, again := p, false
			if p.Decided && r.Intn(3) == 0 {
				p = Propose(p, random(r, 3))
				rounds, increases = 1, 0
			} else if value := random(r, 3); r.Intn(4) > 0 {
				p, again = Receive(p, r.Intn(p.Acceptors+2)-1, p.Round-r.Intn(5)/4, vector.Meet(p.Value, value))
			} else {
				p, again = Receive(p, r.Intn(p.Acceptors+2)-1, p.Round-r.Intn(5)/4, value)
			}
			if !vector.LessEqual(before.Value, p.Value) || p.Round < before.Round || p.Acceptors != before.Acceptors {
				t.Fatalf("%v after %v", p, before)
			}
			if !again {
				continue
			}
			rounds++
			if !slices.Equal(before.Value, p.Value) {
				increases++
			}
			if rounds > 1+increases {
				t.Fatalf("%v after %v: %d rounds, but the value has increased %d times", p, before, rounds, increases)
			}
		}
	}
}

// ask sends the value of p to an acceptor and its reply to p.
func ask(p Proposer, group []acceptor.Acceptor, i int) (Proposer, bool) {
	group[i], _ = acceptor.Accept(group[i], p.Value)
	return Receive(p, i, p.Round, group[i].Value)
}

// Proposers of different inputs that ask the same acceptors, in any order, decide values of a chain.
func TestDecisionsOfAGroup(t *testing.T) {
	r := rand.New(rand.NewSource(5))
	for range 3000 {
		group := make([]acceptor.Acceptor, 1+r.Intn(5))
		inputs := []api.Vector{of(1, 1), of(2, 1), of(3, 1)}
		var list []Proposer
		for _, v := range inputs {
			list = append(list, New(len(group), v))
		}
		var values []api.Vector
		for range 1000 {
			i := r.Intn(len(list))
			if list[i].Decided {
				continue
			}
			list[i], _ = ask(list[i], group, r.Intn(len(group)))
			if list[i].Decided {
				values = append(values, list[i].Value)
			}
		}
		for i, p := range list {
			if !p.Decided || !vector.LessEqual(inputs[i], p.Value) || !vector.LessEqual(p.Value, of(1, 1, 2, 1, 3, 1)) {
				t.Fatalf("%d acceptors: %v proposed %v", len(group), p, inputs[i])
			}
		}
		for _, v := range values {
			for _, w := range values {
				if vector.Compare(v, w) == vector.Concurrent {
					t.Fatalf("%d acceptors: the decisions are %v", len(group), values)
				}
			}
		}
	}
}

// R1

func TestMalformedArguments(t *testing.T) {
	numbers := []int{math.MinInt, -1, 0, 1, 2, math.MaxInt}
	lists := [][]int{nil, {-1}, {7, 7}, {3, 2, 1}, {0, math.MaxInt, math.MinInt, 5}, make([]int, 100)}
	values := append(malformed(), nil, of(1, 1))
	for _, value := range values {
		for _, acks := range lists {
			for _, n := range numbers {
				for _, round := range numbers {
					p := Proposer{Acceptors: n, Value: value, Round: round, Acks: acks}
					before := copied(p)
					New(n, value)
					for _, v := range values {
						p.Decided = !p.Decided
						Propose(p, v)
						p.Decided = !p.Decided
						for _, i := range numbers {
							Receive(p, i, round, v)
						}
					}
					if !same(p, before) {
						t.Fatalf("%v has become %v", before, p)
					}
				}
			}
		}
	}
}

// R2

// withRoom returns a copy of list with room behind it into which an append could write.
func withRoom[E any](list []E) []E {
	out := make([]E, len(list)+10)
	return out[:copy(out, list)]
}

// overwrite changes all elements of list, and those behind it that an append could reach.
func overwrite[E any](list []E, e E) {
	list = list[:cap(list)]
	for i := range list {
		list[i] = e
	}
}

// spoil changes all memory that p reaches.
func spoil(p Proposer) {
	overwrite(p.Value, api.Entry{Author: -7, Count: -7})
	overwrite(p.Acks, -7)
}

// functions are the calls that return a proposer.
func functions() map[string]func(p Proposer, v api.Vector) Proposer {
	calls := map[string]func(p Proposer, v api.Vector) Proposer{
		"New":     func(p Proposer, v api.Vector) Proposer { return New(p.Acceptors, v) },
		"Propose": Propose,
	}
	for i := -1; i <= 5; i++ {
		for late := range 2 {
			calls[fmt.Sprintf("Receive from %d, %d rounds late", i, late)] = func(p Proposer, v api.Vector) Proposer {
				p, _ = Receive(p, i, p.Round-late, v)
				return p
			}
		}
	}
	return calls
}

func TestArgumentsAreNotChanged(t *testing.T) {
	for name, f := range functions() {
		for _, before := range states() {
			for _, v := range []api.Vector{nil, of(1, 1), of(2, 1), of(1, 1, 4, 1)} {
				p, arg := before, withRoom(v)
				p.Value, p.Acks = withRoom(before.Value), withRoom(before.Acks)
				f(p, arg)
				value, acks, entries := withRoom(before.Value), withRoom(before.Acks), withRoom(v)
				if !slices.Equal(p.Value[:cap(p.Value)], value[:cap(value)]) || !slices.Equal(p.Acks[:cap(p.Acks)], acks[:cap(acks)]) || !slices.Equal(arg[:cap(arg)], entries[:cap(entries)]) {
					t.Fatalf("%s(%v, %v) has changed its arguments to %v, %v", name, before, v, p, arg)
				}
			}
		}
	}
}

func TestResultsAreNewMemory(t *testing.T) {
	for name, f := range functions() {
		for _, before := range states() {
			for _, v := range []api.Vector{nil, of(1, 1), of(2, 1), of(1, 1, 4, 1)} {
				p, arg := before, withRoom(v)
				p.Value, p.Acks = withRoom(before.Value), withRoom(before.Acks)
				one, other := f(p, arg), f(p, arg)
				want := copied(one)
				spoil(p)
				overwrite(arg, api.Entry{Author: -7, Count: -7})
				if !same(one, want) {
					t.Fatalf("%s(%v, %v): the result has changed with the arguments", name, before, v)
				}
				spoil(one)
				if !same(other, want) {
					t.Fatalf("%s(%v, %v): a result has changed with another one", name, before, v)
				}
			}
		}
	}
}

// R5

func TestNilIsEmpty(t *testing.T) {
	for _, value := range []api.Vector{nil, {}} {
		for _, v := range []api.Vector{nil, {}} {
			for _, acks := range [][]int{nil, {}} {
				p := New(2, value)
				p.Acks = acks
				if q := Propose(p, v); !same(q, p) {
					t.Errorf("Propose(%v, %v) = %v", p, v, q)
				}
				if q, again := Receive(p, 1, 1, v); !same(q, Proposer{Acceptors: 2, Round: 1, Acks: []int{1}}) || again {
					t.Errorf("Receive of an empty value = %v, %v", q, again)
				}
				if q, again := Receive(p, 1, 2, v); !same(q, p) || again {
					t.Errorf("Receive of another round = %v, %v", q, again)
				}
				if q, again := Receive(p, 1, 1, of(1, 1)); !same(q, Proposer{Acceptors: 2, Value: of(1, 1), Round: 2}) || !again {
					t.Errorf("Receive of a greater value = %v, %v", q, again)
				}
			}
		}
	}
}

// R9

func TestLongValues(t *testing.T) {
	const n = 1 << 20
	low, high := first(n, 1), first(n, 2)
	p, again := Receive(New(3, low), 1, 1, high)
	if !again || !same(p, Proposer{Acceptors: 3, Value: high, Round: 2}) {
		t.Errorf("Receive of a greater value: %v, round %d, %d entries", again, p.Round, len(p.Value))
	}
	for i := range 2 {
		p, again = Receive(p, i, 2, high)
	}
	if again || !same(p, Proposer{Acceptors: 3, Value: high, Round: 2, Acks: []int{0, 1}, Decided: true}) {
		t.Errorf("Receive of the value: %v, round %d, %d entries, acknowledgements %v", again, p.Round, len(p.Value), p.Acks)
	}
	if p = Propose(p, first(n, 3)); !same(p, Proposer{Acceptors: 3, Value: first(n, 3), Round: 3}) {
		t.Errorf("Propose: round %d, %d entries", p.Round, len(p.Value))
	}
}

// FuzzProposers makes calls of bytes: four bytes are a call, with a value of up to three authors.
func FuzzProposers(f *testing.F) {
	f.Add([]byte{3, 0, 1, 0, 1, 1, 1, 0, 1})
	f.Add([]byte{5, 2, 1, 0, 4, 4, 1, 0, 9, 0, 2, 0, 1, 6, 1, 0, 1})
	f.Add([]byte{1, 0, 1, 0, 0, 255, 0, 0, 7})
	f.Fuzz(func(t *testing.T, b []byte) {
		if len(b) == 0 {
			return
		}
		p := New(1+int(b[0])%api.MaxServers, of(1, 1))
		for call := range slices.Chunk(b[1:], 4) {
			if len(call) < 4 {
				break
			}
			from, late, kind, value := int(call[0])-1, int(call[1])%3-1, call[2], call[3]
			var v api.Vector
			for i := range 3 {
				v = vector.With(v, 1+i, int(value>>(2*i))%4)
			}
			before := copied(p)
			got, want := Propose(p, v), proposed(p, v)
			if kind%4 != 0 {
				var again, wantAgain bool
				got, again = Receive(p, from, p.Round+late, v)
				want, wantAgain = received(p, from, p.Round+late, v)
				if again != wantAgain {
					t.Fatalf("Receive(%v, %d, %d, %v) reports %v", p, from, p.Round+late, v, again)
				}
			}
			if !same(got, want) || !same(p, before) {
				t.Fatalf("%v, %d, %d, %v: %v, want %v, and %v has become %v", before, from, late, v, got, want, before, p)
			}
			p = got
		}
	})
}
