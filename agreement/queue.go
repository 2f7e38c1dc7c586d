package agreement

import "slices"

// queue is a list of packets in blocks. No block is empty, and none is long: removing a packet moves no others than
// those of its block, whatever the length of the list.
type queue struct {
	blocks [][]Packet
	count  int
}

// add appends a packet.
func (q *queue) add(packet Packet) {
	last := len(q.blocks) - 1
	if last < 0 || len(q.blocks[last]) >= 512 {
		q.blocks = append(q.blocks, nil)
		last++
	}
	q.blocks[last] = append(q.blocks[last], packet)
	q.count++
}

// remove removes packet i, which must be there, and returns it.
func (q *queue) remove(i int) Packet {
	b := 0
	for i >= len(q.blocks[b]) {
		i -= len(q.blocks[b])
		b++
	}
	packet := q.blocks[b][i]
	q.blocks[b] = slices.Delete(q.blocks[b], i, i+1)
	if len(q.blocks[b]) == 0 {
		q.blocks = slices.Delete(q.blocks, b, b+1)
	}
	q.count--
	return packet
}

// all returns the packets in order.
func (q *queue) all() []Packet { return slices.Concat(q.blocks...) }
