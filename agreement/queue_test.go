package agreement

import (
	"fmt"
	"math/rand"
	"slices"
	"testing"
)

// The packets are in the order in which they were added, and no block is empty or long, whichever have been removed.
func TestQueue(t *testing.T) {
	r := rand.New(rand.NewSource(1))
	for range 20 {
		var q queue
		var want []Packet
		removals := r.Intn(4) // of how many steps, on average
		for n := range 6000 {
			if len(want) > 0 && r.Intn(4) < removals {
				i := []int{0, r.Intn(len(want)), len(want) - 1}[r.Intn(3)]
				if got := q.remove(i); got.Round != want[i].Round {
					t.Fatalf("packet %d of %d is %v, want %v", i, len(want), got, want[i])
				}
				want = slices.Delete(want, i, i+1)
			} else {
				q.add(Packet{Round: n})
				want = append(want, Packet{Round: n})
			}
			if q.count != len(want) {
				t.Fatalf("%d packets, want %d", q.count, len(want))
			}
		}
		if got := q.all(); fmt.Sprint(got) != fmt.Sprint(want) {
			t.Fatalf("packets %v, want %v", got, want)
		}
		for _, block := range q.blocks {
			if len(block) == 0 || len(block) > 512 {
				t.Fatalf("a block of %d packets", len(block))
			}
		}
	}
}
