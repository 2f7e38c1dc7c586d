package agreement

import (
	"fmt"
	"maps"
	"math"
	"math/rand"
	"reflect"
	"slices"
	"strings"
	"testing"

	"elasticstore/acceptor"
	"elasticstore/api"
	"elasticstore/proposer"
	"elasticstore/vector"
)

const most = 1000000 // the greatest count of P3.1

// of returns a vector of pairs of an author and a count.
func of(pairs ...int) api.Vector {
	var v api.Vector
	for p := range slices.Chunk(pairs, 2) {
		v = append(v, api.Entry{Author: p[0], Count: p[1]})
	}
	return v
}

// first returns the vector of the authors 1 to n, with that count.
func first(n, count int) api.Vector {
	var v api.Vector
	for i := range n {
		v = append(v, api.Entry{Author: 1 + i, Count: count})
	}
	return v
}

// random returns a valid vector with up to n authors of 1 to 2n.
func random(r *rand.Rand, n int) api.Vector {
	var v api.Vector
	for range r.Intn(n + 1) {
		v = vector.With(v, 1+r.Intn(2*n), 1+r.Intn(3))
	}
	return v
}

// randomInputs returns the inputs of up to four proposers.
func randomInputs(r *rand.Rand) [][]api.Vector {
	inputs := make([][]api.Vector, r.Intn(5))
	for p := range inputs {
		for range r.Intn(4) {
			inputs[p] = append(inputs[p], random(r, 3))
		}
	}
	return inputs
}

// randomSchedule returns up to n numbers of all sizes.
func randomSchedule(r *rand.Rand, n int) []int {
	list := make([]int, r.Intn(n+1))
	for i := range list {
		list[i] = []int{0, 1, -1, r.Intn(100), -r.Intn(100), int(r.Uint64()), math.MinInt, math.MaxInt}[r.Intn(8)]
	}
	return list
}

// randomGroup returns a group of up to five acceptors after some steps. Values of its acceptors have been replaced.
func randomGroup(r *rand.Rand) Group {
	g := New(1+r.Intn(5), randomInputs(r))
	for range r.Intn(40) {
		switch i := r.Intn(len(g.Packets) + 2); r.Intn(12) {
		case 0:
			g = Lose(g, i)
		case 1:
			g = Resend(g, r.Intn(5)-1)
		case 2:
			g.Acceptors[r.Intn(len(g.Acceptors))].Value = random(r, 3)
		default:
			g = Deliver(g, i)
		}
	}
	return g
}

// same compares groups, in which an empty list is equal to nil.
func same(a, b Group) bool { return fmt.Sprint(a) == fmt.Sprint(b) }

// copied returns a group equal to g that shares no memory with it.
func copied(g Group) Group {
	out := Group{Next: slices.Clone(g.Next), Steps: g.Steps}
	for _, a := range g.Acceptors {
		out.Acceptors = append(out.Acceptors, acceptor.Acceptor{Value: slices.Clone(a.Value)})
	}
	for _, p := range g.Proposers {
		p.Value, p.Acks = slices.Clone(p.Value), slices.Clone(p.Acks)
		out.Proposers = append(out.Proposers, p)
	}
	for _, list := range g.Inputs {
		out.Inputs = append(out.Inputs, copiedVectors(list))
	}
	for _, k := range g.Packets {
		k.Value = slices.Clone(k.Value)
		out.Packets = append(out.Packets, k)
	}
	for _, d := range g.Decisions {
		d.Value = slices.Clone(d.Value)
		out.Decisions = append(out.Decisions, d)
	}
	return out
}

func copiedVectors(list []api.Vector) []api.Vector {
	var out []api.Vector
	for _, v := range list {
		out = append(out, slices.Clone(v))
	}
	return out
}

// proposals returns the packets of a proposal to n acceptors.
func proposals(n, p, round int, v api.Vector) []Packet {
	var out []Packet
	for a := range n {
		out = append(out, Packet{Proposer: p, Acceptor: a, Round: round, Value: v})
	}
	return out
}

// created is New by its definition.
func created(acceptors int, inputs [][]api.Vector) Group {
	g := Group{Acceptors: make([]acceptor.Acceptor, acceptors)}
	for p, list := range inputs {
		g.Inputs = append(g.Inputs, list)
		g.Next = append(g.Next, 0)
		if len(list) == 0 {
			g.Proposers = append(g.Proposers, proposer.New(acceptors, nil))
			continue
		}
		g.Proposers = append(g.Proposers, proposer.New(acceptors, list[0]))
		g.Packets = append(g.Packets, proposals(acceptors, p, 1, list[0])...)
	}
	return g
}

// delivered is Deliver by its definition.
func delivered(g Group, i int) Group {
	g = copied(g)
	if i >= 0 && i < len(g.Packets) {
		deliverTo(&g, i)
	}
	return g
}

// deliverTo delivers packet i of g.
func deliverTo(g *Group, i int) {
	k := g.Packets[i]
	g.Packets = slices.Delete(g.Packets, i, i+1)
	g.Steps++
	if !k.Reply {
		g.Acceptors[k.Acceptor], _ = acceptor.Accept(g.Acceptors[k.Acceptor], k.Value)
		value := slices.Clone(g.Acceptors[k.Acceptor].Value)
		g.Packets = append(g.Packets, Packet{Reply: true, Proposer: k.Proposer, Acceptor: k.Acceptor, Round: k.Round, Value: value})
		return
	}
	p, again := proposer.Receive(g.Proposers[k.Proposer], k.Acceptor, k.Round, k.Value)
	began := again
	if p.Decided && !g.Proposers[k.Proposer].Decided {
		g.Decisions = append(g.Decisions, Decision{Proposer: k.Proposer, Input: g.Next[k.Proposer], Value: slices.Clone(p.Value), Step: g.Steps})
		if list := g.Inputs[k.Proposer]; g.Next[k.Proposer] < len(list)-1 {
			g.Next[k.Proposer]++
			p = proposer.Propose(p, list[g.Next[k.Proposer]])
			began = true
		}
	}
	g.Proposers[k.Proposer] = p
	if began {
		g.Packets = append(g.Packets, proposals(len(g.Acceptors), k.Proposer, p.Round, slices.Clone(p.Value))...)
	}
}

// lost is Lose by its definition.
func lost(g Group, i int) Group {
	g = copied(g)
	if i >= 0 && i < len(g.Packets) {
		g.Packets = slices.Concat(g.Packets[:i], g.Packets[i+1:])
	}
	return g
}

// resent is Resend by its definition.
func resent(g Group, p int) Group {
	g = copied(g)
	if p < 0 || p >= len(g.Proposers) || len(g.Inputs[p]) == 0 {
		return g
	}
	decided := 0
	for _, d := range g.Decisions {
		if d.Proposer == p {
			decided++
		}
	}
	if decided < len(g.Inputs[p]) {
		g.Packets = append(g.Packets, proposals(len(g.Acceptors), p, g.Proposers[p].Round, g.Proposers[p].Value)...)
	}
	return g
}

// executed is Run by its definition.
func executed(g Group, schedule []int) Group {
	g = copied(g)
	for _, n := range schedule {
		if len(g.Packets) == 0 {
			continue
		}
		i := n % len(g.Packets)
		if i < 0 {
			i += len(g.Packets)
		}
		deliverTo(&g, i)
	}
	return g
}

// drained is Drain by its definition.
func drained(g Group) Group {
	g = copied(g)
	for len(g.Packets) > 0 {
		deliverTo(&g, 0)
	}
	return g
}

// P17.1

func TestNew(t *testing.T) {
	one, two, three := of(1, 1), of(1, 2, 7, 1), of(2, most, math.MaxInt, 1)
	for _, x := range []struct {
		name      string
		acceptors int
		inputs    [][]api.Vector
		want      Group
	}{
		{"no proposers", 3, nil, Group{Acceptors: make([]acceptor.Acceptor, 3)}},
		{"one proposer", 1, [][]api.Vector{{one}}, Group{
			Acceptors: make([]acceptor.Acceptor, 1),
			Proposers: []proposer.Proposer{{Acceptors: 1, Value: one, Round: 1}},
			Inputs:    [][]api.Vector{{one}},
			Next:      []int{0},
			Packets:   []Packet{{Value: one, Round: 1}},
		}},
		{"the empty vector", 2, [][]api.Vector{{nil, two}}, Group{
			Acceptors: make([]acceptor.Acceptor, 2),
			Proposers: []proposer.Proposer{{Acceptors: 2, Round: 1}},
			Inputs:    [][]api.Vector{{nil, two}},
			Next:      []int{0},
			Packets:   []Packet{{Round: 1}, {Acceptor: 1, Round: 1}},
		}},
		{"some without inputs", 2, [][]api.Vector{nil, {two, one}, {}, {three, two, one}, nil}, Group{
			Acceptors: make([]acceptor.Acceptor, 2),
			Proposers: []proposer.Proposer{{Acceptors: 2, Round: 1}, {Acceptors: 2, Value: two, Round: 1}, {Acceptors: 2, Round: 1}, {Acceptors: 2, Value: three, Round: 1}, {Acceptors: 2, Round: 1}},
			Inputs:    [][]api.Vector{nil, {two, one}, nil, {three, two, one}, nil},
			Next:      []int{0, 0, 0, 0, 0},
			Packets: []Packet{
				{Proposer: 1, Acceptor: 0, Round: 1, Value: two}, {Proposer: 1, Acceptor: 1, Round: 1, Value: two},
				{Proposer: 3, Acceptor: 0, Round: 1, Value: three}, {Proposer: 3, Acceptor: 1, Round: 1, Value: three},
			},
		}},
	} {
		if g := New(x.acceptors, x.inputs); !same(g, x.want) {
			t.Errorf("%s: %v, want %v", x.name, g, x.want)
		}
	}
}

func TestNewFollowsItsDefinition(t *testing.T) {
	r := rand.New(rand.NewSource(17))
	for acceptors := 1; acceptors <= api.MaxServers; acceptors++ {
		for range 100 {
			inputs := randomInputs(r)
			if got, want := New(acceptors, inputs), created(acceptors, inputs); !same(got, want) {
				t.Fatalf("New(%d, %v) = %v, want %v", acceptors, inputs, got, want)
			}
		}
	}
}

// P17.2

// step is a step of a story: what is delivered, and what has come of it.
type step struct {
	name      string
	deliver   int
	packets   []Packet // all that are in flight then
	acceptors []api.Vector
	proposer  proposer.Proposer // the one with the index watched
	watched   int
	decisions int
}

// A group of three acceptors and two proposers, packet by packet.
func TestDeliver(t *testing.T) {
	a, b, c, ab, abc := of(1, 1), of(2, 1), of(3, 1), of(1, 1, 2, 1), of(1, 1, 2, 1, 3, 1)
	toA, toB := proposals(3, 0, 1, a), proposals(3, 1, 1, b)
	second, third := proposals(3, 1, 2, ab), proposals(3, 1, 3, abc)
	reply := func(p, acceptor, round int, v api.Vector) Packet {
		return Packet{Reply: true, Proposer: p, Acceptor: acceptor, Round: round, Value: v}
	}
	g := New(3, [][]api.Vector{{a}, {b, c}})
	for _, x := range []step{
		{"below the first", -1, slices.Concat(toA, toB), []api.Vector{nil, nil, nil}, proposer.New(3, a), 0, 0},
		{"behind the last", 6, slices.Concat(toA, toB), []api.Vector{nil, nil, nil}, proposer.New(3, a), 0, 0},
		{"a proposal to an empty acceptor", 1, slices.Concat(toA[:1], toA[2:], toB, []Packet{reply(0, 1, 1, a)}), []api.Vector{nil, a, nil}, proposer.New(3, a), 0, 0},
		{"a proposal that is not accepted", 3, slices.Concat(toA[:1], toA[2:], toB[:1], toB[2:], []Packet{reply(0, 1, 1, a), reply(1, 1, 1, ab)}), []api.Vector{nil, ab, nil}, proposer.New(3, b), 1, 0},
		{"an acknowledgement", 4, slices.Concat(toA[:1], toA[2:], toB[:1], toB[2:], []Packet{reply(1, 1, 1, ab)}), []api.Vector{nil, ab, nil}, proposer.Proposer{Acceptors: 3, Value: a, Round: 1, Acks: []int{1}}, 0, 0},
		{"a reply that begins a round", 4, slices.Concat(toA[:1], toA[2:], toB[:1], toB[2:], second), []api.Vector{nil, ab, nil}, proposer.Proposer{Acceptors: 3, Value: ab, Round: 2}, 1, 0},
		{"a proposal of an earlier round", 2, slices.Concat(toA[:1], toA[2:], toB[2:], second, []Packet{reply(1, 0, 1, b)}), []api.Vector{b, ab, nil}, proposer.Proposer{Acceptors: 3, Value: ab, Round: 2}, 1, 0},
		{"its reply", 6, slices.Concat(toA[:1], toA[2:], toB[2:], second), []api.Vector{b, ab, nil}, proposer.Proposer{Acceptors: 3, Value: ab, Round: 2}, 1, 0},
		{"a proposal of the second round", 5, slices.Concat(toA[:1], toA[2:], toB[2:], second[:2], []Packet{reply(1, 2, 2, ab)}), []api.Vector{b, ab, ab}, proposer.Proposer{Acceptors: 3, Value: ab, Round: 2}, 1, 0},
		{"another one", 4, slices.Concat(toA[:1], toA[2:], toB[2:], second[:1], []Packet{reply(1, 2, 2, ab), reply(1, 1, 2, ab)}), []api.Vector{b, ab, ab}, proposer.Proposer{Acceptors: 3, Value: ab, Round: 2}, 1, 0},
		{"a reply of the second round", 4, slices.Concat(toA[:1], toA[2:], toB[2:], second[:1], []Packet{reply(1, 1, 2, ab)}), []api.Vector{b, ab, ab}, proposer.Proposer{Acceptors: 3, Value: ab, Round: 2, Acks: []int{2}}, 1, 0},
		{"a decision with another input", 4, slices.Concat(toA[:1], toA[2:], toB[2:], second[:1], third), []api.Vector{b, ab, ab}, proposer.Proposer{Acceptors: 3, Value: abc, Round: 3}, 1, 1},
		{"a proposal behind the decision", 3, slices.Concat(toA[:1], toA[2:], toB[2:], third, []Packet{reply(1, 0, 2, ab)}), []api.Vector{ab, ab, ab}, proposer.Proposer{Acceptors: 3, Value: abc, Round: 3}, 1, 1},
		{"its reply", 6, slices.Concat(toA[:1], toA[2:], toB[2:], third), []api.Vector{ab, ab, ab}, proposer.Proposer{Acceptors: 3, Value: abc, Round: 3}, 1, 1},
		{"the first proposal of the input", 3, slices.Concat(toA[:1], toA[2:], toB[2:], third[1:], []Packet{reply(1, 0, 3, abc)}), []api.Vector{abc, ab, ab}, proposer.Proposer{Acceptors: 3, Value: abc, Round: 3}, 1, 1},
		{"its reply", 5, slices.Concat(toA[:1], toA[2:], toB[2:], third[1:]), []api.Vector{abc, ab, ab}, proposer.Proposer{Acceptors: 3, Value: abc, Round: 3, Acks: []int{0}}, 1, 1},
		{"the second proposal of the input", 3, slices.Concat(toA[:1], toA[2:], toB[2:], third[2:], []Packet{reply(1, 1, 3, abc)}), []api.Vector{abc, abc, ab}, proposer.Proposer{Acceptors: 3, Value: abc, Round: 3, Acks: []int{0}}, 1, 1},
		{"a decision of the last input", 4, slices.Concat(toA[:1], toA[2:], toB[2:], third[2:]), []api.Vector{abc, abc, ab}, proposer.Proposer{Acceptors: 3, Value: abc, Round: 3, Acks: []int{0, 1}, Decided: true}, 1, 2},
		{"a proposal of who has decided", 3, slices.Concat(toA[:1], toA[2:], toB[2:], []Packet{reply(1, 2, 3, abc)}), []api.Vector{abc, abc, abc}, proposer.Proposer{Acceptors: 3, Value: abc, Round: 3, Acks: []int{0, 1}, Decided: true}, 1, 2},
		{"its reply", 3, slices.Concat(toA[:1], toA[2:], toB[2:]), []api.Vector{abc, abc, abc}, proposer.Proposer{Acceptors: 3, Value: abc, Round: 3, Acks: []int{0, 1}, Decided: true}, 1, 2},
	} {
		if x.deliver >= 0 && x.deliver < len(g.Packets) {
			x.check(t, Deliver(g, x.deliver), g.Steps+1)
		} else {
			x.check(t, Deliver(g, x.deliver), g.Steps)
		}
		g = Deliver(g, x.deliver)
	}
	want := []Decision{{Proposer: 1, Input: 0, Value: ab, Step: 10}, {Proposer: 1, Input: 1, Value: abc, Step: 16}}
	if fmt.Sprint(g.Decisions) != fmt.Sprint(want) || !slices.Equal(g.Next, []int{0, 1}) || g.Steps != 18 {
		t.Errorf("decisions %v, want %v; Next is %v after %d steps", g.Decisions, want, g.Next, g.Steps)
	}
}

// check checks what has come of a step.
func (x step) check(t *testing.T, g Group, steps int) {
	t.Helper()
	if fmt.Sprint(g.Packets) != fmt.Sprint(x.packets) {
		t.Errorf("%s: packets %v, want %v", x.name, g.Packets, x.packets)
	}
	for i, a := range g.Acceptors {
		if !slices.Equal(a.Value, x.acceptors[i]) {
			t.Errorf("%s: acceptor %d has %v, want %v", x.name, i, a.Value, x.acceptors[i])
		}
	}
	if got := g.Proposers[x.watched]; fmt.Sprint(got) != fmt.Sprint(x.proposer) {
		t.Errorf("%s: proposer %d is %v, want %v", x.name, x.watched, got, x.proposer)
	}
	if len(g.Decisions) != x.decisions || g.Steps != steps || len(g.Acceptors) != 3 || len(g.Proposers) != 2 || len(g.Inputs) != 2 {
		t.Errorf("%s: %d decisions after %d steps: %v", x.name, len(g.Decisions), g.Steps, g)
	}
}

// The only acceptor makes proposers with several inputs decide with each reply that has nothing new.
func TestDeliverToOneAcceptor(t *testing.T) {
	g := New(1, [][]api.Vector{{of(1, 1), nil, of(2, 3)}})
	for i, want := range []Decision{{Input: 0, Value: of(1, 1), Step: 2}, {Input: 1, Value: of(1, 1), Step: 4}, {Input: 2, Value: of(1, 1, 2, 3), Step: 6}} {
		g = Deliver(Deliver(g, 0), 0)
		if len(g.Decisions) != i+1 || fmt.Sprint(g.Decisions[i]) != fmt.Sprint(want) || g.Next[0] != min(i+1, 2) || g.Proposers[0].Round != min(i+2, 3) {
			t.Fatalf("decision %d: %v", i, g)
		}
	}
	if len(g.Packets) != 0 || !g.Proposers[0].Decided {
		t.Errorf("at the end: %v", g)
	}
}

// indices returns numbers of packets of g and some that there are not.
func indices(g Group) []int {
	list := []int{math.MinInt, -1, len(g.Packets), len(g.Packets) + 1, math.MaxInt}
	for i := range g.Packets {
		list = append(list, i)
	}
	return list
}

// checkSteps checks that each single step from g is what its definition says.
func checkSteps(t *testing.T, g Group) {
	t.Helper()
	for _, i := range indices(g) {
		if got, want := Deliver(g, i), delivered(g, i); !same(got, want) {
			t.Fatalf("Deliver(%v, %d) = %v, want %v", g, i, got, want)
		}
		if got, want := Lose(g, i), lost(g, i); !same(got, want) {
			t.Fatalf("Lose(%v, %d) = %v, want %v", g, i, got, want)
		}
	}
	for _, p := range []int{math.MinInt, -1, 0, 1, 2, 3, 4, 5, math.MaxInt} {
		if got, want := Resend(g, p), resent(g, p); !same(got, want) {
			t.Fatalf("Resend(%v, %d) = %v, want %v", g, p, got, want)
		}
	}
}

func TestStepsFollowTheirDefinition(t *testing.T) {
	r := rand.New(rand.NewSource(2))
	for range 400 {
		checkSteps(t, randomGroup(r))
	}
}

// The values of acceptors may be replaced by smaller ones, greater ones and others.
func TestReplacedValues(t *testing.T) {
	g := New(3, [][]api.Vector{{of(1, 1)}})
	g.Acceptors[0].Value = of(2, 5)
	g = Drain(g)
	if len(g.Decisions) != 1 || !slices.Equal(g.Decisions[0].Value, of(1, 1, 2, 5)) || g.Proposers[0].Round != 2 {
		t.Errorf("a greater value: %v", g)
	}
	g = New(1, [][]api.Vector{{of(1, 1)}, {of(2, 1)}})
	g = Deliver(Deliver(g, 0), 1)
	g.Acceptors[0].Value = nil
	g = Drain(g)
	if len(g.Decisions) != 2 || !slices.Equal(g.Decisions[0].Value, of(1, 1)) || !slices.Equal(g.Decisions[1].Value, of(2, 1)) {
		t.Errorf("an acceptor that has forgotten: %v", g)
	}
}

// P17.3

func TestLose(t *testing.T) {
	g := Deliver(New(2, [][]api.Vector{{of(1, 1), of(1, 2)}, {of(2, 1)}}), 1)
	for i := range g.Packets {
		h := Lose(g, i)
		want := copied(g)
		want.Packets = slices.Delete(want.Packets, i, i+1)
		if !same(h, want) || h.Steps != 1 {
			t.Errorf("Lose(%d) = %v, want %v", i, h, want)
		}
	}
	for _, i := range []int{math.MinInt, -1, 4, 5, math.MaxInt} {
		if h := Lose(g, i); !same(h, g) {
			t.Errorf("Lose(%d) = %v", i, h)
		}
	}
}

func TestResend(t *testing.T) {
	start := New(2, [][]api.Vector{{of(1, 1), of(1, 2)}, nil, {of(2, 1)}})
	early := start
	for len(early.Packets) > 0 {
		early = Lose(early, 0)
	}
	first := Drain(Resend(early, 2))
	last := Drain(Resend(first, 0))
	for _, x := range []struct {
		name string
		g    Group
		p    int
		sent []Packet
	}{
		{"what is in flight", start, 0, proposals(2, 0, 1, of(1, 1))},
		{"what has been lost", early, 0, proposals(2, 0, 1, of(1, 1))},
		{"of the last proposer", early, 2, proposals(2, 2, 1, of(2, 1))},
		{"without inputs", early, 1, nil},
		{"with all inputs decided", first, 2, nil},
		{"before the first proposer", early, -1, nil},
		{"far before the first proposer", early, math.MinInt, nil},
		{"behind the last proposer", early, 3, nil},
		{"far behind the last proposer", early, math.MaxInt, nil},
		{"with two inputs decided", last, 0, nil},
	} {
		want := copied(x.g)
		want.Packets = append(want.Packets, x.sent...)
		if h := Resend(x.g, x.p); !same(h, want) {
			t.Errorf("%s: %v, want %v", x.name, h, want)
		}
	}
	// The second input of a proposer whose first one has been decided, and the value of a later round.
	g := Deliver(Deliver(Deliver(Deliver(Resend(first, 0), 0), 0), 0), 0)
	if h := Resend(g, 0); len(h.Packets) != len(g.Packets)+2 || h.Packets[len(g.Packets)].Round != 2 || !slices.Equal(h.Packets[len(g.Packets)].Value, of(1, 1, 2, 1)) {
		t.Errorf("in a later round: %v", h)
	}
	g = drainedUntil(g, 2)
	if h := Resend(g, 0); !slices.Equal(g.Next, []int{1, 0, 0}) || len(h.Packets) != len(g.Packets)+2 || !slices.Equal(h.Packets[len(g.Packets)].Value, of(1, 2, 2, 1)) {
		t.Errorf("the second input: %v", h)
	}
}

// drainedUntil delivers the oldest packets until there are that many decisions.
func drainedUntil(g Group, decisions int) Group {
	for len(g.Decisions) < decisions {
		g = Deliver(g, 0)
	}
	return g
}

func TestRun(t *testing.T) {
	g := New(3, [][]api.Vector{{of(1, 1)}, {of(2, 1)}}) // six packets
	for _, x := range []struct {
		n, want int
	}{
		{0, 0}, {5, 5}, {6, 0}, {7, 1}, {-1, 5}, {-5, 1}, {-6, 0}, {-7, 5}, {600, 0}, {-601, 5}, {math.MaxInt, math.MaxInt % 6}, {math.MinInt, math.MinInt%6 + 6},
	} {
		if h := Run(g, []int{x.n}); !same(h, delivered(g, x.want)) {
			t.Errorf("Run of %d is not Deliver of %d: %v", x.n, x.want, h)
		}
	}
	if h := Run(g, nil); !same(h, g) {
		t.Errorf("Run of nothing: %v", h)
	}
	// The number of packets changes from step to step: a lost one, a reply, three proposals.
	h := Lose(g, 0)
	if k := Run(h, []int{-1, 9, -2}); !same(k, delivered(delivered(delivered(h, 4), 4), 2)) {
		t.Errorf("Run of three steps: %v", k)
	}
	none := Drain(g)
	if k := Run(none, []int{0, 1, -1, math.MinInt}); !same(k, none) {
		t.Errorf("Run without packets: %v", k)
	}
	if k := Run(New(1, [][]api.Vector{{of(1, 1)}}), []int{4, -3, 2, 7, 0}); k.Steps != 2 || len(k.Decisions) != 1 {
		t.Errorf("Run beyond the last packet: %v", k)
	}
}

func TestDrain(t *testing.T) {
	start := New(3, [][]api.Vector{{of(1, 1)}, {of(2, 1)}})
	g := Drain(start)
	// Six proposals and six replies, of which the first two to proposer 0 make it decide and the first one to proposer 1
	// makes it begin a round, with three proposals and three replies.
	want := []Decision{{Proposer: 0, Value: of(1, 1), Step: 8}, {Proposer: 1, Value: of(1, 1, 2, 1), Step: 17}}
	if len(g.Packets) != 0 || g.Steps != 18 || fmt.Sprint(g.Decisions) != fmt.Sprint(want) || !same(g, drained(start)) {
		t.Errorf("%v", g)
	}
	if h := Drain(g); !same(h, g) {
		t.Errorf("Drain without packets: %v", h)
	}
}

// checkRuns checks Run and Drain.
func checkRuns(t *testing.T, g Group, schedule []int) {
	t.Helper()
	if got, want := Run(g, schedule), executed(g, schedule); !same(got, want) {
		t.Fatalf("Run(%v, %v) = %v, want %v", g, schedule, got, want)
	}
	if got, want := Drain(g), drained(g); !same(got, want) {
		t.Fatalf("Drain(%v) = %v, want %v", g, got, want)
	}
}

func TestRunsFollowTheirDefinition(t *testing.T) {
	r := rand.New(rand.NewSource(3))
	for range 800 {
		checkRuns(t, randomGroup(r), randomSchedule(r, 80))
	}
}

// With many packets in flight, from the first to the last of them.
func TestRunsOfManyPackets(t *testing.T) {
	r := rand.New(rand.NewSource(33))
	for range 5 {
		var inputs [][]api.Vector
		for range 100 + r.Intn(60) {
			inputs = append(inputs, []api.Vector{random(r, 2), random(r, 2)})
		}
		g := New(1+r.Intn(api.MaxServers), inputs)
		schedule := make([]int, 3*len(g.Packets))
		for i := range schedule {
			schedule[i] = int(r.Uint64())
		}
		if i := r.Intn(4); i > 0 {
			clear(schedule[r.Intn(len(schedule)):]) // the oldest ones
		}
		checkRuns(t, g, schedule)
		for _, i := range []int{0, len(g.Packets) / 3, len(g.Packets) - 1, len(g.Packets)} {
			if got, want := Deliver(g, i), delivered(g, i); !same(got, want) {
				t.Fatalf("Deliver(%v, %d) = %v, want %v", g, i, got, want)
			}
			if got, want := Lose(g, i), lost(g, i); !same(got, want) {
				t.Fatalf("Lose(%v, %d) = %v, want %v", g, i, got, want)
			}
		}
	}
}

// P17.5

// checkDecisions checks the consequences for the decisions of a group that began with New.
func checkDecisions(t *testing.T, g Group) {
	t.Helper()
	var all api.Vector
	for _, v := range slices.Concat(g.Inputs...) {
		all = vector.Join(all, v)
	}
	began := map[[2]int]int{} // by proposer and input; 0 for the first input
	for _, d := range g.Decisions {
		began[[2]int{d.Proposer, d.Input + 1}] = d.Step
	}
	for i, d := range g.Decisions {
		if !vector.LessEqual(g.Inputs[d.Proposer][d.Input], d.Value) || !vector.LessEqual(d.Value, all) {
			t.Fatalf("decision %d of %v", i, g)
		}
		for j, e := range g.Decisions {
			if vector.Compare(d.Value, e.Value) == vector.Concurrent {
				t.Fatalf("decisions %d and %d are no chain: %v", i, j, g)
			}
			if j < i && (e.Step >= d.Step || e.Proposer == d.Proposer && e.Input >= d.Input) {
				t.Fatalf("decisions %d and %d are not in order: %v", j, i, g)
			}
			if e.Step <= began[[2]int{d.Proposer, d.Input}] && !vector.LessEqual(e.Value, d.Value) {
				t.Fatalf("decision %d does not contain decision %d, which was made before: %v", i, j, g)
			}
		}
	}
}

// checkEnd checks that every proposer has decided all its inputs, each of them once.
func checkEnd(t *testing.T, g Group) {
	t.Helper()
	decided := map[int]int{}
	for _, d := range g.Decisions {
		if d.Input != decided[d.Proposer] {
			t.Fatalf("input %d of proposer %d is decided behind %d others: %v", d.Input, d.Proposer, decided[d.Proposer], g)
		}
		decided[d.Proposer]++
	}
	for p, list := range g.Inputs {
		if decided[p] != len(list) {
			t.Fatalf("proposer %d has decided %d of %d inputs: %v", p, decided[p], len(list), g)
		}
	}
}

func TestConsequences(t *testing.T) {
	r := rand.New(rand.NewSource(5))
	for range 1500 {
		g := New(1+r.Intn(5), randomInputs(r))
		for range r.Intn(4) {
			g = Resend(Run(g, randomSchedule(r, 30)), r.Intn(4))
			checkDecisions(t, g)
		}
		end := Drain(g)
		checkDecisions(t, end)
		checkEnd(t, end)
	}
}

// Losses change nothing but that a proposal may have to be sent again.
func TestConsequencesWithLosses(t *testing.T) {
	r := rand.New(rand.NewSource(6))
	for range 1500 {
		g := New(1+r.Intn(5), randomInputs(r))
		for range r.Intn(60) {
			if i := r.Intn(len(g.Packets) + 1); r.Intn(3) == 0 {
				g = Lose(g, i)
			} else {
				g = Deliver(g, i)
			}
		}
		g = Drain(g)
		checkDecisions(t, g)
		for range 12 { // every proposer decides at least one input when its proposals are not lost
			for p := range g.Proposers {
				g = Drain(Resend(g, p))
			}
		}
		checkDecisions(t, g)
		checkEnd(t, g)
	}
}

// key identifies the states in which the same can still happen, and in which the same has been decided.
func key(g Group) string {
	g = copied(g)
	g.Steps = 0
	packets := map[string]int{}
	for _, k := range g.Packets {
		packets[fmt.Sprint(k)]++
	}
	g.Packets = nil
	for i := range g.Decisions {
		g.Decisions[i].Step = 0
	}
	return fmt.Sprint(g, packets)
}

// choices returns the packets that may be delivered next. A reply to which its proposer does not listen any more changes
// nothing, whenever it is delivered: it is enough to deliver it at once.
func choices(g Group) []int {
	var list []int
	for i, k := range g.Packets {
		if p := g.Proposers[k.Proposer]; k.Reply && (p.Decided || p.Round != k.Round) {
			return []int{i}
		}
		list = append(list, i)
	}
	return list
}

// ends returns a group for each state without packets that a schedule leads to.
func ends(start Group) []Group {
	var list []Group
	seen := map[string]bool{key(start): true}
	for work := []Group{start}; len(work) > 0; {
		g := work[len(work)-1]
		work = work[:len(work)-1]
		if len(g.Packets) == 0 {
			list = append(list, g)
		}
		for _, i := range choices(g) {
			next := Deliver(g, i)
			if k := key(next); !seen[k] {
				seen[k] = true
				work = append(work, next)
			}
		}
	}
	return list
}

// The example of the chapter, and other small groups, in every schedule.
func TestEverySchedule(t *testing.T) {
	a, b := of(1, 1), of(2, 1)
	for _, x := range []struct {
		acceptors int
		inputs    [][]api.Vector
	}{
		{1, [][]api.Vector{{a}, {b}}},
		{1, [][]api.Vector{{a, of(3, 1)}, {b, of(4, 1)}}},
		{1, [][]api.Vector{{a}, {b}, {of(3, 1)}}},
		{2, [][]api.Vector{{a}, {b}}},
		{2, [][]api.Vector{{a, of(1, 2)}, {nil}}},
		{3, [][]api.Vector{{a, of(2, 1)}}},
		{3, [][]api.Vector{{a}, {b}}},
	} {
		list := ends(New(x.acceptors, x.inputs))
		if len(list) == 0 {
			t.Errorf("%d acceptors, %v: no schedule ends", x.acceptors, x.inputs)
		}
		for _, g := range list {
			checkDecisions(t, g)
			checkEnd(t, g)
			if x.acceptors == 3 && len(x.inputs) == 2 && !slices.ContainsFunc(g.Decisions, func(d Decision) bool { return slices.Equal(d.Value, of(1, 1, 2, 1)) }) {
				t.Errorf("no decision is the join: %v", g)
			}
		}
	}
}

// R1

func TestNumbersOfAcceptors(t *testing.T) {
	for _, acceptors := range []int{math.MinInt, -1, 0, api.MaxServers + 1, 1 << 40, math.MaxInt} {
		for _, inputs := range [][][]api.Vector{nil, {nil}, {{of(1, 1)}, {of(2, 1), of(2, 2)}}} {
			g := New(acceptors, inputs)
			for _, f := range functions() {
				f(g, 0)
			}
			if end := Drain(g); len(end.Packets) != 0 {
				t.Errorf("Drain of New(%d, %v) = %v", acceptors, inputs, end)
			}
		}
	}
}

// functions are the functions that take a group, with one number.
func functions() map[string]func(g Group, n int) Group {
	return map[string]func(g Group, n int) Group{
		"Deliver": Deliver,
		"Lose":    Lose,
		"Resend":  Resend,
		"Run":     func(g Group, n int) Group { return Run(g, []int{n, n + 1, 0, n}) },
		"Drain":   func(g Group, n int) Group { return Drain(g) },
	}
}

// malformed returns vectors that are not valid.
func malformed() []api.Vector {
	return []api.Vector{
		of(0, 0), of(-1, 5), of(1, 0), of(1, -1), of(1, most+1), of(1, math.MinInt), of(math.MinInt, math.MaxInt, math.MaxInt, math.MinInt),
		of(2, 1, 1, 1), of(1, 1, 1, 1), of(1, 1, 1, 2, 1, 3), of(5, -1, 1, 3), of(3, 1, 2, 1, 1, 1, 2, 1, 3, 1), of(math.MaxInt, 1, math.MinInt, 1, 0, 1),
	}
}

// Counts below 0 are dropped where another vector lacks them; what was kept in order by them is then joined twice. The
// value of the proposer would double with each of its inputs.
func TestMalformedVectorsThatDouble(t *testing.T) {
	const n = 60
	start := slices.Repeat(of(5, -1), n)
	inputs := [][]api.Vector{{append(slices.Clone(start), of(1, 3)...)}}
	for i := range n {
		inputs[0] = append(inputs[0], start[i+1:])
	}
	g := New(1, [][]api.Vector{{nil}})
	g.Acceptors[0].Value, g.Proposers[0].Value, g.Packets[0].Value = inputs[0][0], inputs[0][0], inputs[0][0]
	g.Inputs = inputs
	Run(g, make([]int, 4*n))
	Drain(g)
}

func TestMalformedVectors(t *testing.T) {
	for _, v := range malformed() {
		for _, w := range append(malformed(), nil, of(1, 1), of(1, 1, 2, 2, 3, 3)) {
			g := New(3, [][]api.Vector{{v, w}, {w, v}})
			h := New(3, [][]api.Vector{{of(1, 1), of(1, 2)}, {of(2, 1)}})
			k, l, m := copied(h), copied(h), copied(h)
			h.Acceptors[0].Value, h.Acceptors[1].Value = v, w
			k.Packets[0].Value, k.Packets[5].Value = v, w
			l.Proposers[0].Value, l.Proposers[1].Value = v, w
			m.Inputs[0][1], m.Inputs[1][0] = v, w
			for _, x := range []Group{g, h, k, l, m} {
				Run(x, slices.Repeat([]int{0, 5, -1}, 100))
				Drain(x)
				Deliver(x, 0)
			}
		}
	}
}

// A group that the functions do not return stays as it is.
func TestInconsistentGroups(t *testing.T) {
	for name, change := range map[string]func(g *Group){
		"the value of an acceptor":     func(g *Group) { g.Acceptors[2].Value = of(1, 0) },
		"too many acceptors":           func(g *Group) { g.Acceptors = make([]acceptor.Acceptor, api.MaxServers+1) },
		"no acceptors":                 func(g *Group) { g.Acceptors = nil },
		"the value of a proposer":      func(g *Group) { g.Proposers[1].Value = of(2, 1, 1, 1) },
		"too few proposers":            func(g *Group) { g.Proposers = g.Proposers[:2] },
		"too many proposers":           func(g *Group) { g.Proposers = append(g.Proposers, proposer.New(3, nil)) },
		"an input":                     func(g *Group) { g.Inputs[0][1] = of(-1, 1) },
		"too few lists of inputs":      func(g *Group) { g.Inputs = g.Inputs[:2] },
		"too many lists of inputs":     func(g *Group) { g.Inputs = append(g.Inputs, nil) },
		"an input below the first":     func(g *Group) { g.Next[0] = -1 },
		"an input behind the last":     func(g *Group) { g.Next[0] = 2 },
		"an input far behind the last": func(g *Group) { g.Next[2] = math.MaxInt },
		"an input that there is not":   func(g *Group) { g.Next[1] = 1 },
		"too few inputs proposed":      func(g *Group) { g.Next = g.Next[:2] },
		"too many inputs proposed":     func(g *Group) { g.Next = append(g.Next, 0) },
		"the value of a packet":        func(g *Group) { g.Packets[6].Value = of(1, most+1) },
		"a proposer below the first":   func(g *Group) { g.Packets[6].Proposer = -1 },
		"a proposer behind the last":   func(g *Group) { g.Packets[0].Proposer = 3 },
		"an acceptor below the first":  func(g *Group) { g.Packets[1].Acceptor = math.MinInt },
		"an acceptor behind the last":  func(g *Group) { g.Packets[2].Acceptor = 3 },
	} {
		g := Deliver(Resend(New(3, [][]api.Vector{{of(1, 1), of(1, 2)}, nil, {of(2, 1)}}), 2), 4)
		if g.Steps != 1 || len(g.Packets) != 9 || !slices.Equal(g.Next, []int{0, 0, 0}) {
			t.Fatalf("%v", g)
		}
		change(&g)
		for _, i := range []int{-1, 0, 1, 6, 8, 9} {
			for function, f := range functions() {
				if h := f(g, i); !same(h, g) {
					t.Errorf("%s: %s(%v, %d) = %v", name, function, g, i, h)
				}
			}
		}
	}
}

// broken returns a group of which some parts have been replaced by anything.
func broken(r *rand.Rand) Group {
	g := randomGroup(r)
	numbers := []int{math.MinInt, -2, -1, 0, 1, 2, 3, 5, 12, 13, 1000, math.MaxInt}
	number := func() int { return numbers[r.Intn(len(numbers))] }
	value := func() api.Vector {
		if r.Intn(3) > 0 {
			return random(r, 3)
		}
		return malformed()[r.Intn(len(malformed()))]
	}
	for range 1 + r.Intn(3) {
		switch r.Intn(9) {
		case 0:
			g.Acceptors = g.Acceptors[:r.Intn(len(g.Acceptors)+1)]
		case 1:
			g.Acceptors = append(g.Acceptors, acceptor.Acceptor{Value: value()})
		case 2:
			g.Proposers = g.Proposers[:r.Intn(len(g.Proposers)+1)]
		case 3:
			g.Proposers = append(g.Proposers, proposer.Proposer{Acceptors: number(), Value: value(), Round: number(), Acks: []int{number(), number()}, Decided: r.Intn(2) == 0})
		case 4:
			g.Inputs = append(g.Inputs[:r.Intn(len(g.Inputs)+1)], []api.Vector{value(), value()})
		case 5:
			g.Next = append(g.Next[:r.Intn(len(g.Next)+1)], number())
		case 6:
			g.Next = g.Next[:r.Intn(len(g.Next)+1)]
		case 7:
			g.Packets = append(g.Packets, Packet{Reply: r.Intn(2) == 0, Proposer: number(), Acceptor: number(), Round: number(), Value: value()})
		case 8:
			g.Decisions = append(g.Decisions, Decision{Proposer: number(), Input: number(), Value: value(), Step: number()})
			g.Steps = number()
		}
	}
	return g
}

func TestMalformedGroups(t *testing.T) {
	r := rand.New(rand.NewSource(1))
	for range 2000 {
		g := broken(r)
		before := copied(g)
		for name, f := range functions() {
			for _, n := range []int{math.MinInt, -1, 0, 1, 2, r.Intn(len(g.Packets) + 1), len(g.Packets) - 1, math.MaxInt} {
				if h := f(g, n); overlap(g, h) != "" {
					t.Fatalf("%s(%v, %d): %s", name, g, n, overlap(g, h))
				}
			}
			if !same(g, before) {
				t.Fatalf("%s has changed its argument %v to %v", name, before, g)
			}
		}
	}
}

// R2

// region is the memory of a slice, with what lies behind it up to its capacity.
type region struct {
	name       string
	begin, end uintptr
}

// regions returns the memory of all slices that can be reached from v.
func regions(name string, v reflect.Value) []region {
	var out []region
	switch v.Kind() {
	case reflect.Struct:
		for i := range v.NumField() {
			out = append(out, regions(name+"."+v.Type().Field(i).Name, v.Field(i))...)
		}
	case reflect.Slice:
		if v.Cap() > 0 {
			out = append(out, region{name, v.Pointer(), v.Pointer() + uintptr(v.Cap())*v.Type().Elem().Size()})
		}
		for i := range v.Len() {
			out = append(out, regions(fmt.Sprint(name, "[", i, "]"), v.Index(i))...)
		}
	}
	return out
}

// overlap says which slices of the values share memory. It says nothing of those of one argument, whose name begins with "given".
func overlap(given, result any, others ...any) string {
	list := append(regions("given", reflect.ValueOf(given)), regions("result", reflect.ValueOf(result))...)
	for i, v := range others {
		list = append(list, regions(fmt.Sprint("result ", i+2), reflect.ValueOf(v))...)
	}
	slices.SortFunc(list, func(x, y region) int { return int(x.begin) - int(y.begin) })
	for i := 1; i < len(list); i++ {
		x, y := list[i-1], list[i]
		if x.end > y.begin && !(strings.HasPrefix(x.name, "given") && strings.HasPrefix(y.name, "given")) {
			return x.name + " and " + y.name + " share memory"
		}
	}
	return ""
}

// withRoom returns a copy of list with room behind it into which an append could write.
func withRoom[E any](list []E) []E {
	out := make([]E, len(list)+3)
	return out[:copy(out, list)]
}

// roomy returns a group equal to g whose lists all have room behind them.
func roomy(g Group) Group {
	g = copied(g)
	for i := range g.Acceptors {
		g.Acceptors[i].Value = withRoom(g.Acceptors[i].Value)
	}
	for i := range g.Proposers {
		g.Proposers[i].Value, g.Proposers[i].Acks = withRoom(g.Proposers[i].Value), withRoom(g.Proposers[i].Acks)
	}
	g.Inputs = roomyInputs(g.Inputs)
	for i := range g.Packets {
		g.Packets[i].Value = withRoom(g.Packets[i].Value)
	}
	for i := range g.Decisions {
		g.Decisions[i].Value = withRoom(g.Decisions[i].Value)
	}
	g.Acceptors, g.Proposers, g.Next, g.Packets, g.Decisions = withRoom(g.Acceptors), withRoom(g.Proposers), withRoom(g.Next), withRoom(g.Packets), withRoom(g.Decisions)
	return g
}

func roomyInputs(inputs [][]api.Vector) [][]api.Vector {
	out := withRoom(inputs)
	for p, list := range out {
		out[p] = withRoom(list)
		for i, v := range out[p] {
			out[p][i] = withRoom(v)
		}
	}
	return out
}

// whole returns g with all its lists up to their capacity.
func whole(g Group) Group {
	g.Acceptors, g.Proposers, g.Next, g.Packets, g.Decisions, g.Inputs = slices.Clone(g.Acceptors[:cap(g.Acceptors)]), slices.Clone(g.Proposers[:cap(g.Proposers)]), g.Next[:cap(g.Next)], slices.Clone(g.Packets[:cap(g.Packets)]), slices.Clone(g.Decisions[:cap(g.Decisions)]), wholeInputs(g.Inputs)
	for i := range g.Acceptors {
		g.Acceptors[i].Value = all(g.Acceptors[i].Value)
	}
	for i := range g.Proposers {
		g.Proposers[i].Value, g.Proposers[i].Acks = all(g.Proposers[i].Value), all(g.Proposers[i].Acks)
	}
	for i := range g.Packets {
		g.Packets[i].Value = all(g.Packets[i].Value)
	}
	for i := range g.Decisions {
		g.Decisions[i].Value = all(g.Decisions[i].Value)
	}
	return g
}

func wholeInputs(inputs [][]api.Vector) [][]api.Vector {
	out := slices.Clone(inputs[:cap(inputs)])
	for p, list := range out {
		out[p] = slices.Clone(all(list))
		for i, v := range out[p] {
			out[p][i] = all(v)
		}
	}
	return out
}

func all[S ~[]E, E any](list S) S { return list[:cap(list)] }

func TestArgumentsAreNotChanged(t *testing.T) {
	r := rand.New(rand.NewSource(20))
	for range 300 {
		g := roomy(randomGroup(r))
		before := fmt.Sprint(whole(g))
		for name, f := range functions() {
			for _, n := range indices(g) {
				f(g, n)
				if after := fmt.Sprint(whole(g)); after != before {
					t.Fatalf("%s(%d) has changed its argument from %s to %s", name, n, before, after)
				}
			}
		}
		inputs, schedule := roomyInputs(randomInputs(r)), withRoom(randomSchedule(r, 20))
		given, numbers := fmt.Sprint(wholeInputs(inputs)), slices.Clone(all(schedule))
		New(3, inputs)
		if after := fmt.Sprint(wholeInputs(inputs)); after != given {
			t.Fatalf("New has changed its argument from %s to %s", given, after)
		}
		Run(g, schedule)
		if !slices.Equal(all(schedule), numbers) {
			t.Fatalf("Run has changed its schedule from %v to %v", numbers, all(schedule))
		}
	}
}

func TestResultsAreNewMemory(t *testing.T) {
	r := rand.New(rand.NewSource(21))
	for range 300 {
		g := roomy(randomGroup(r))
		for name, f := range functions() {
			for _, n := range indices(g) {
				if shared := overlap(g, f(g, n), f(g, n)); shared != "" {
					t.Fatalf("%s(%v, %d): %s", name, g, n, shared)
				}
			}
		}
		inputs := roomyInputs(randomInputs(r))
		if shared := overlap(inputs, New(3, inputs), New(3, inputs)); shared != "" {
			t.Fatalf("New(3, %v): %s", inputs, shared)
		}
		// What has been returned does not change with later steps.
		h := Run(g, randomSchedule(r, 40))
		text := fmt.Sprint(whole(h))
		if end := Drain(h); fmt.Sprint(whole(h)) != text || overlap(h, end) != "" {
			t.Fatalf("Drain has changed %s to %v", text, h)
		}
	}
	v := of(1, 1)
	inputs := [][]api.Vector{{v, v}, {v}} // an argument may share memory within itself
	if shared := overlap(inputs, New(2, inputs)); shared != "" {
		t.Errorf("New of shared inputs: %s", shared)
	}
}

// R3

func TestResultsDependOnArgumentsOnly(t *testing.T) {
	r := rand.New(rand.NewSource(30))
	for range 200 {
		g, schedule := randomGroup(r), randomSchedule(r, 60)
		a := Run(g, schedule)
		for name, f := range functions() {
			f(randomGroup(r), r.Intn(5))
			if x, y := f(g, 1), f(roomy(g), 1); !same(x, y) {
				t.Fatalf("%s(%v, 1) = %v, and then %v", name, g, x, y)
			}
		}
		if b := Run(roomy(g), schedule); !same(a, b) {
			t.Fatalf("Run(%v, %v) = %v, and then %v", g, schedule, a, b)
		}
	}
}

// R5

func TestNilIsEmpty(t *testing.T) {
	if a, b := New(3, nil), New(3, [][]api.Vector{}); !same(a, b) || len(b.Packets) != 0 || len(b.Acceptors) != 3 {
		t.Errorf("New without inputs: %v and %v", a, b)
	}
	a, b := New(2, [][]api.Vector{nil, {nil, of(1, 1)}}), New(2, [][]api.Vector{{}, {{}, of(1, 1)}})
	if !same(a, b) || len(b.Packets) != 2 {
		t.Errorf("New with empty inputs: %v and %v", a, b)
	}
	if x, y := Run(a, nil), Run(b, []int{}); !same(x, a) || !same(y, a) {
		t.Errorf("Run without a schedule: %v and %v", x, y)
	}
	if x, y := Drain(a), Drain(b); !same(x, y) || len(x.Decisions) != 2 {
		t.Errorf("Drain: %v and %v", x, y)
	}
	empty := Group{Acceptors: []acceptor.Acceptor{}, Proposers: []proposer.Proposer{}, Inputs: [][]api.Vector{}, Next: []int{}, Packets: []Packet{}, Decisions: []Decision{}}
	for name, f := range functions() {
		if x, y := f(Group{}, 0), f(empty, 0); !same(x, Group{}) || !same(y, Group{}) {
			t.Errorf("%s of an empty group: %v and %v", name, x, y)
		}
	}
}

// R9

// Moving all packets, or copying the group, at each step would take hours here.
func TestManyPackets(t *testing.T) {
	const n = 1 << 15
	inputs := slices.Repeat([][]api.Vector{{of(1, 1), of(2, 1)}}, n)
	start := New(api.MaxServers, inputs)
	if len(start.Packets) != api.MaxServers*n {
		t.Fatalf("%d packets", len(start.Packets))
	}
	r := rand.New(rand.NewSource(9))
	schedule := make([]int, 1<<20)
	for i := range schedule {
		schedule[i] = int(r.Uint64())
	}
	g := Run(start, schedule)
	if g.Steps != len(schedule) {
		t.Errorf("Run has made %d steps", g.Steps)
	}
	for name, end := range map[string]Group{"Run and Drain": Drain(g), "Drain": Drain(start)} {
		if len(end.Decisions) != 2*n || len(end.Packets) != 0 {
			t.Errorf("%s: %d decisions, %d packets", name, len(end.Decisions), len(end.Packets))
		}
		counts := map[string]int{}
		for _, d := range end.Decisions {
			counts[fmt.Sprint(d.Value)]++
		}
		for _, v := range slices.Sorted(maps.Keys(counts)) {
			if v != fmt.Sprint(of(1, 1)) && v != fmt.Sprint(of(1, 1, 2, 1)) {
				t.Errorf("%s: %d decisions of %s", name, counts[v], v)
			}
		}
	}
}

func TestLongValuesAndManyInputs(t *testing.T) {
	const n = 1 << 18
	g := Drain(New(3, [][]api.Vector{{first(n, 1)}, {first(n, 2), of(n+1, 1)}}))
	if len(g.Decisions) != 3 || len(g.Proposers[1].Value) != n+1 {
		t.Errorf("%d decisions of long values", len(g.Decisions))
	}
	list := make([]api.Vector, n)
	for i := range list {
		list[i] = of(1, 1+i)
	}
	g = Drain(New(1, [][]api.Vector{list}))
	if len(g.Decisions) != n || g.Steps != 2*n || !slices.Equal(g.Decisions[n-1].Value, of(1, n)) {
		t.Errorf("%d decisions of many inputs in %d steps", len(g.Decisions), g.Steps)
	}
	g = Run(New(1, [][]api.Vector{{of(1, 1)}}), make([]int, 1<<22))
	if len(g.Decisions) != 1 || g.Steps != 2 {
		t.Errorf("a long schedule: %v", g)
	}
}

// reader reads numbers from bytes.
type reader struct{ rest []byte }

// below returns a number of 0 to n-1.
func (r *reader) below(n int) int {
	if len(r.rest) == 0 {
		return 0
	}
	b := r.rest[0]
	r.rest = r.rest[1:]
	return int(b) % n
}

// vector returns a vector of up to three authors.
func (r *reader) vector() api.Vector {
	var v api.Vector
	for range r.below(4) {
		v = vector.With(v, 1+r.below(5), 1+r.below(3))
	}
	return v
}

func FuzzGroups(f *testing.F) {
	f.Add([]byte{2, 2, 1, 1, 0, 0, 1, 1, 1, 0, 0, 3, 0, 3, 5, 3, 1, 4, 0, 3, 2})
	f.Add([]byte{0, 3, 2, 2, 1, 1, 2, 2, 1, 0, 1, 1, 4, 0, 0, 1, 0, 5, 1, 3, 3, 2, 1, 3, 9, 3, 7, 3, 200})
	f.Fuzz(func(t *testing.T, b []byte) {
		r := reader{b[:min(len(b), 200)]} // each step is compared as a whole
		acceptors := 1 + r.below(api.MaxServers)
		inputs := make([][]api.Vector, r.below(5))
		for p := range inputs {
			for range r.below(4) {
				inputs[p] = append(inputs[p], r.vector())
			}
		}
		g, whole := New(acceptors, inputs), true
		if !same(g, created(acceptors, inputs)) {
			t.Fatalf("New(%d, %v) = %v", acceptors, inputs, g)
		}
		for len(r.rest) > 0 {
			var want Group
			before := copied(g)
			switch i := r.below(256) - 8; r.below(6) {
			case 0:
				g, want, whole = Lose(g, i), lost(g, i), false
			case 1:
				g, want = Resend(g, i), resent(g, i)
			case 2:
				g, want = Run(g, []int{i, -i, 7 * i}), executed(g, []int{i, -i, 7 * i})
			default:
				g, want = Deliver(g, i), delivered(g, i)
			}
			if !same(g, want) {
				t.Fatalf("%v became %v, not %v", before, g, want)
			}
		}
		checkDecisions(t, g)
		end := Drain(g)
		if !same(end, drained(g)) {
			t.Fatalf("Drain(%v) = %v", g, end)
		}
		checkDecisions(t, end)
		if whole {
			checkEnd(t, end)
		}
	})
}
