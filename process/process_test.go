package process

import (
	"math"
	"testing"
)

func TestIdentifiers(t *testing.T) {
	for _, x := range []struct {
		first, last int
		is          func(int) bool
		name        string
	}{
		{1, 12, IsServer, "IsServer"}, {101, 106, IsClient, "IsClient"}, {201, 203, IsAdmin, "IsAdmin"},
	} {
		for id := -300; id <= 300; id++ {
			if got := x.is(id); got != (x.first <= id && id <= x.last) {
				t.Errorf("%s(%d) = %v", x.name, id, got)
			}
		}
		for _, id := range []int{math.MinInt, math.MinInt + 1, math.MinInt32, math.MaxInt32, 1<<32 + 101, math.MaxInt - 200, math.MaxInt} {
			if x.is(id) {
				t.Errorf("%s(%d) is true", x.name, id)
			}
		}
	}
}
