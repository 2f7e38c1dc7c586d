package agreement

import (
	"slices"

	"elasticstore/acceptor"
	"elasticstore/proposer"
)

// run is a group at work. No vector is ever changed, so that its parts may share them.
type run struct {
	group  Group // without its packets
	flight queue
}

// begin returns a run that begins with g, whose lists it leaves as they are.
func begin(g Group) *run {
	r := &run{group: g}
	for _, packet := range g.Packets {
		r.flight.add(packet)
	}
	r.group.Acceptors = slices.Clone(g.Acceptors)
	r.group.Proposers = slices.Clone(g.Proposers)
	r.group.Next = slices.Clone(g.Next)
	r.group.Decisions = slices.Clone(g.Decisions)
	return r
}

// end returns the group that r has become.
func (r *run) end() Group {
	r.group.Packets = r.flight.all()
	return r.group
}

// deliver delivers packet i.
func (r *run) deliver(i int) {
	packet := r.flight.remove(i)
	r.group.Steps++
	if !packet.Reply {
		r.accept(packet)
		return
	}
	switch r.receive(packet) {
	case retry:
		r.send(packet.Proposer)
	case decide:
		r.conclude(packet.Proposer)
	}
}

// accept gives a proposal to its acceptor, which replies.
func (r *run) accept(proposal Packet) {
	a, _ := acceptor.Accept(r.group.Acceptors[proposal.Acceptor], proposal.Value)
	r.group.Acceptors[proposal.Acceptor] = a
	reply := proposal
	reply.Reply = true
	reply.Value = a.Value
	r.flight.add(reply)
}

// receive gives a reply to its proposer, and returns what it makes the proposer do.
func (r *run) receive(reply Packet) int {
	before := r.group.Proposers[reply.Proposer]
	p, again := proposer.Receive(before, reply.Acceptor, reply.Round, reply.Value)
	r.group.Proposers[reply.Proposer] = p
	switch {
	case again:
		return retry
	case p.Decided && !before.Decided:
		return decide
	default:
		return wait
	}
}

// conclude notes what proposer p has decided, and lets it propose its next input.
func (r *run) conclude(p int) {
	g := &r.group
	g.Decisions = append(g.Decisions, Decision{Proposer: p, Input: g.Next[p], Value: g.Proposers[p].Value, Step: g.Steps})
	if g.Next[p]+1 < len(g.Inputs[p]) {
		g.Next[p]++
		g.Proposers[p] = proposer.Propose(g.Proposers[p], g.Inputs[p][g.Next[p]])
		r.send(p)
	}
}

// resend sends the proposal of proposer p, if it has one that it has not decided.
func (r *run) resend(p int) {
	if len(r.group.Inputs[p]) > 0 && !r.group.Proposers[p].Decided {
		r.send(p)
	}
}

// send sends the value of proposer p to all acceptors.
func (r *run) send(p int) {
	from := r.group.Proposers[p]
	for a := range r.group.Acceptors {
		r.flight.add(Packet{Proposer: p, Acceptor: a, Round: from.Round, Value: from.Value})
	}
}
