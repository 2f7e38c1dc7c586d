package proposal

import (
	"bytes"
	"encoding/binary"
	"math"
	"math/rand"
	"reflect"
	"slices"
	"testing"

	"elasticstore/api"
	"elasticstore/quorum"
	"elasticstore/wire"
)

var (
	majority = api.Rule{Kind: api.RuleMajority}
	weighted = api.Rule{Kind: api.RuleWeighted}
	grid     = api.Rule{Kind: api.RuleGrid, Columns: 3}
	masking  = api.Rule{Kind: api.RuleMasking, Faulty: 2}
)

func join(server, weight int) api.Change {
	return api.Change{Kind: api.ChangeJoin, Server: server, Weight: weight}
}

func remove(server int) api.Change { return api.Change{Kind: api.ChangeRemove, Server: server} }

func weight(server, weight, version int) api.Change {
	return api.Change{Kind: api.ChangeWeight, Server: server, Weight: weight, Version: version}
}

func rule(r api.Rule, version int) api.Change {
	return api.Change{Kind: api.ChangeRule, Version: version, Rule: r}
}

func of(admin, number int, changes ...api.Change) api.Proposal {
	return api.Proposal{Admin: admin, Number: number, Changes: changes}
}

// changes returns valid changes of all kinds, with fields at and between their bounds.
func changes() []api.Change {
	return []api.Change{
		join(1, 1), join(12, 9), join(4, 2), remove(1), remove(12), remove(4), weight(1, 1, 1), weight(12, 9, 1000), weight(4, 5, 128),
		rule(majority, 1), rule(weighted, 1000), rule(grid, 127), rule(masking, 7),
		rule(api.Rule{Kind: api.RuleGrid, Columns: api.MaxServers}, 300), rule(api.Rule{Kind: api.RuleMasking}, 2),
	}
}

// samples returns valid proposals of all administrators and numbers, with 1 to 6 changes, from a fixed sequence.
func samples() []api.Proposal {
	r := rand.New(rand.NewSource(5))
	var out []api.Proposal
	for admin := api.FirstAdmin; admin < api.FirstAdmin+api.MaxAdmins; admin++ {
		for number := 1; number <= api.MaxProposals; number++ {
			for size := 1; size <= api.MaxChanges; size++ {
				out = append(out, randomProposal(r, admin, number, size))
			}
		}
	}
	for _, c := range changes() {
		out = append(out, of(202, 2, c))
	}
	return out
}

func randomProposal(r *rand.Rand, admin, number, size int) api.Proposal {
	p := of(admin, number)
	for len(p.Changes) < size {
		c := changes()[r.Intn(len(changes()))]
		if c.Kind != api.ChangeRule {
			c.Server = 1 + r.Intn(api.MaxServers)
		}
		if !taken(p.Changes, c) {
			p.Changes = append(p.Changes, c)
		}
	}
	return p
}

func taken(earlier []api.Change, c api.Change) bool {
	for _, o := range earlier {
		if o.Kind == c.Kind && o.Server == c.Server {
			return true
		}
	}
	return false
}

// extremes are numbers that no field may hold.
func extremes() []int {
	return []int{math.MinInt, math.MinInt32, -201, -1, 1001, math.MaxInt32, 1 << 31, 1<<32 + 1, 1<<32 + 201, math.MaxInt}
}

// malformed returns proposals that are not valid.
func malformed() []api.Proposal {
	var out []api.Proposal
	for _, p := range []api.Proposal{of(201, 1, join(1, 1)), of(203, 3, weight(12, 9, 1000), rule(grid, 1000))} {
		for _, field := range numberFields(&p) {
			before := *field
			for _, n := range extremes() {
				*field = n
				out = append(out, copied(p))
			}
			*field = before
		}
	}
	seven := make([]api.Change, 7)
	for i := range seven {
		seven[i] = remove(i + 1)
	}
	return append(out, api.Proposal{}, of(201, 1), of(201, 1, api.Change{}), of(201, 1, seven...), of(0, 0, seven...),
		of(201, 1, remove(1), remove(1)), of(201, 1, make([]api.Change, 1000)...))
}

// numberFields returns pointers to all numbers of p, in the order of their encoding but without the number of changes.
func numberFields(p *api.Proposal) []*int {
	out := []*int{&p.Admin, &p.Number}
	for i := range p.Changes {
		c := &p.Changes[i]
		out = append(out, &c.Kind, &c.Server, &c.Weight, &c.Version, &c.Rule.Kind, &c.Rule.Columns, &c.Rule.Faulty)
	}
	return out
}

func copied(p api.Proposal) api.Proposal {
	p.Changes = slices.Clone(p.Changes)
	return p
}

// same reports whether p and q are equal, by reflection instead of Equal.
func same(p, q api.Proposal) bool {
	return p.Admin == q.Admin && p.Number == q.Number && (len(p.Changes) == 0 && len(q.Changes) == 0 || reflect.DeepEqual(p.Changes, q.Changes))
}

// P5.1

func TestValidateChange(t *testing.T) {
	for _, c := range changes() {
		if e := ValidateChange(c); e != api.OK {
			t.Errorf("ValidateChange(%v) = %v", c, e)
		}
	}
	for _, x := range []struct {
		name string
		c    api.Change
		e    api.Errno
	}{
		{"the zero value", api.Change{}, api.ErrKind},
		{"a kind too small", api.Change{Kind: -1, Server: 1, Weight: 1}, api.ErrKind},
		{"a kind too great", api.Change{Kind: 5, Server: 1, Weight: 1, Version: 1}, api.ErrKind},
		{"kind before all others", api.Change{Kind: 5, Server: 13, Weight: 10, Version: 1001, Rule: api.Rule{Kind: 9}}, api.ErrKind},

		{"join server 0", join(0, 1), api.ErrRange},
		{"join server -1", join(-1, 1), api.ErrRange},
		{"join server 13", join(13, 1), api.ErrRange},
		{"join with weight 0", join(1, 0), api.ErrRange},
		{"join with weight -1", join(1, -1), api.ErrRange},
		{"join with weight 10", join(1, 10), api.ErrRange},
		{"join with a version", api.Change{Kind: api.ChangeJoin, Server: 1, Weight: 1, Version: 1}, api.ErrRange},
		{"join with a version below 0", api.Change{Kind: api.ChangeJoin, Server: 1, Weight: 1, Version: -1}, api.ErrRange},
		{"join with a rule", api.Change{Kind: api.ChangeJoin, Server: 1, Weight: 1, Rule: majority}, api.ErrInvalid},
		{"join with a malformed rule", api.Change{Kind: api.ChangeJoin, Server: 1, Weight: 1, Rule: api.Rule{Kind: 9}}, api.ErrInvalid},

		{"remove server 0", remove(0), api.ErrRange},
		{"remove server 13", remove(13), api.ErrRange},
		{"remove with a weight", api.Change{Kind: api.ChangeRemove, Server: 1, Weight: 1}, api.ErrRange},
		{"remove with a weight below 0", api.Change{Kind: api.ChangeRemove, Server: 1, Weight: -1}, api.ErrRange},
		{"remove with a version", api.Change{Kind: api.ChangeRemove, Server: 1, Version: 1}, api.ErrRange},
		{"remove with columns", api.Change{Kind: api.ChangeRemove, Server: 1, Rule: api.Rule{Columns: 1}}, api.ErrInvalid},
		{"remove with faulty", api.Change{Kind: api.ChangeRemove, Server: 1, Rule: api.Rule{Faulty: 1}}, api.ErrInvalid},

		{"weight of server 0", weight(0, 1, 1), api.ErrRange},
		{"weight of server 13", weight(13, 1, 1), api.ErrRange},
		{"weight 0", weight(1, 0, 1), api.ErrRange},
		{"weight 10", weight(1, 10, 1), api.ErrRange},
		{"weight with version 0", weight(1, 1, 0), api.ErrRange},
		{"weight with version 1001", weight(1, 1, 1001), api.ErrRange},
		{"weight with a rule", api.Change{Kind: api.ChangeWeight, Server: 1, Weight: 1, Version: 1, Rule: grid}, api.ErrInvalid},

		{"rule with a server", api.Change{Kind: api.ChangeRule, Server: 1, Version: 1, Rule: grid}, api.ErrRange},
		{"rule with a server below 0", api.Change{Kind: api.ChangeRule, Server: -1, Version: 1, Rule: grid}, api.ErrRange},
		{"rule with a weight", api.Change{Kind: api.ChangeRule, Weight: 1, Version: 1, Rule: grid}, api.ErrRange},
		{"rule with version 0", rule(grid, 0), api.ErrRange},
		{"rule with version 1001", rule(grid, 1001), api.ErrRange},
		{"no rule", rule(api.Rule{}, 1), api.ErrKind},
		{"a rule of an unknown kind", rule(api.Rule{Kind: 5}, 1), api.ErrKind},
		{"a grid without columns", rule(api.Rule{Kind: api.RuleGrid}, 1), api.ErrRange},
		{"a majority with columns", rule(api.Rule{Kind: api.RuleMajority, Columns: 1}, 1), api.ErrRange},
		{"a masking rule with 13 faulty", rule(api.Rule{Kind: api.RuleMasking, Faulty: 13}, 1), api.ErrRange},

		{"server before rule", api.Change{Kind: api.ChangeJoin, Server: 13, Weight: 1, Rule: grid}, api.ErrRange},
		{"weight before rule", api.Change{Kind: api.ChangeJoin, Server: 1, Weight: 10, Rule: grid}, api.ErrRange},
		{"version before rule", api.Change{Kind: api.ChangeRemove, Server: 1, Version: 1, Rule: grid}, api.ErrRange},
		{"server before the kind of the rule", api.Change{Kind: api.ChangeRule, Server: 1, Version: 1}, api.ErrRange},
		{"weight before the kind of the rule", api.Change{Kind: api.ChangeRule, Weight: 1, Version: 1}, api.ErrRange},
		{"version before the kind of the rule", rule(api.Rule{}, 0), api.ErrRange},
	} {
		if e := ValidateChange(x.c); e != x.e {
			t.Errorf("%s: ValidateChange(%v) = %v, want %v", x.name, x.c, e, x.e)
		}
	}
}

// changeError is the list of conditions of P5.1.
func changeError(c api.Change) api.Errno {
	k := c.Kind
	if k != 1 && k != 2 && k != 3 && k != 4 {
		return api.ErrKind
	}
	if k <= 3 && (c.Server < 1 || c.Server > 12) || k == 4 && c.Server != 0 {
		return api.ErrRange
	}
	if (k == 1 || k == 3) && (c.Weight < 1 || c.Weight > 9) || (k == 2 || k == 4) && c.Weight != 0 {
		return api.ErrRange
	}
	if k >= 3 && (c.Version < 1 || c.Version > 1000) || k <= 2 && c.Version != 0 {
		return api.ErrRange
	}
	if k == 4 {
		return quorum.ValidateRule(c.Rule)
	}
	if c.Rule.Kind != 0 || c.Rule.Columns != 0 || c.Rule.Faulty != 0 {
		return api.ErrInvalid
	}
	return api.OK
}

func TestValidateChangeReturnsFirstError(t *testing.T) {
	rules := []api.Rule{
		{}, majority, weighted, grid, masking, {Kind: -1}, {Kind: 5}, {Columns: 1}, {Columns: -1}, {Faulty: 1}, {Faulty: math.MinInt},
		{Kind: api.RuleGrid}, {Kind: api.RuleGrid, Columns: 13}, {Kind: api.RuleMasking, Faulty: 13}, {Kind: api.RuleMajority, Faulty: 1},
	}
	for _, kind := range []int{math.MinInt, -1, 0, 1, 2, 3, 4, 5, math.MaxInt} {
		for _, server := range []int{math.MinInt, -1, 0, 1, 12, 13, math.MaxInt} {
			for _, weight := range []int{math.MinInt, -1, 0, 1, 9, 10, math.MaxInt} {
				for _, version := range []int{math.MinInt, -1, 0, 1, 1000, 1001, math.MaxInt} {
					for _, r := range rules {
						c := api.Change{Kind: kind, Server: server, Weight: weight, Version: version, Rule: r}
						if e, want := ValidateChange(c), changeError(c); e != want {
							t.Errorf("ValidateChange(%v) = %v, want %v", c, e, want)
						}
					}
				}
			}
		}
	}
}

// P5.2

func TestValidate(t *testing.T) {
	six := []api.Change{join(1, 1), join(2, 1), remove(1), weight(1, 2, 1), weight(2, 2, 1), rule(grid, 1)}
	seven := append(slices.Clone(six), remove(2))
	for _, p := range append(samples(), of(201, 1, join(4, 2), remove(1)), of(203, 3, six...), of(201, 1, join(5, 1), weight(5, 2, 1), remove(5))) {
		if e := Validate(p); e != api.OK {
			t.Errorf("Validate(%v) = %v", p, e)
		}
	}
	for _, x := range []struct {
		name string
		p    api.Proposal
		e    api.Errno
	}{
		{"the zero value", api.Proposal{}, api.ErrRange},
		{"admin too small", of(200, 1, remove(1)), api.ErrRange},
		{"admin too great", of(204, 1, remove(1)), api.ErrRange},
		{"a server as admin", of(1, 1, remove(1)), api.ErrRange},
		{"a client as admin", of(101, 1, remove(1)), api.ErrRange},
		{"number 0", of(201, 0, remove(1)), api.ErrRange},
		{"number -1", of(201, -1, remove(1)), api.ErrRange},
		{"number 4", of(201, 4, remove(1)), api.ErrRange},
		{"no changes", of(201, 1), api.ErrInvalid},
		{"an empty list of changes", api.Proposal{Admin: 201, Number: 1, Changes: []api.Change{}}, api.ErrInvalid},
		{"seven changes", of(201, 1, seven...), api.ErrTooLong},
		{"an unknown kind", of(201, 1, api.Change{}), api.ErrKind},
		{"a bad change at the end", of(201, 1, join(1, 1), remove(2), weight(1, 10, 1)), api.ErrRange},
		{"a rule in another change", of(201, 1, api.Change{Kind: api.ChangeRemove, Server: 1, Rule: grid}), api.ErrInvalid},
		{"a server removed twice", of(201, 1, remove(1), remove(1)), api.ErrDuplicate},
		{"a server removed twice with another one between", of(201, 1, remove(1), remove(2), remove(1)), api.ErrDuplicate},
		{"a server that joins with two weights", of(201, 1, join(1, 1), join(1, 2)), api.ErrDuplicate},
		{"two weights of a server", of(201, 1, weight(1, 1, 1), weight(1, 2, 2)), api.ErrDuplicate},
		{"two rules", of(201, 1, rule(grid, 1), join(1, 1), rule(majority, 2)), api.ErrDuplicate},

		{"admin before no changes", of(200, 1), api.ErrRange},
		{"number before no changes", of(201, 4), api.ErrRange},
		{"admin before too many changes", of(200, 1, seven...), api.ErrRange},
		{"admin before a bad change", of(204, 1, api.Change{}), api.ErrRange},
		{"too many before a bad change", of(201, 1, make([]api.Change, 7)...), api.ErrTooLong},
		{"too many before a duplicate", of(201, 1, append(slices.Clone(six), rule(grid, 1))...), api.ErrTooLong},
		{"the error of a change before its duplicate", of(201, 1, remove(1), api.Change{Kind: api.ChangeRemove, Server: 1, Rule: grid}), api.ErrInvalid},
		{"a duplicate before the error of a later change", of(201, 1, remove(1), remove(1), api.Change{}), api.ErrDuplicate},
		{"the error of a change before a later duplicate", of(201, 1, remove(1), remove(0), remove(1)), api.ErrRange},
	} {
		if e := Validate(x.p); e != x.e {
			t.Errorf("%s: Validate(%v) = %v, want %v", x.name, x.p, e, x.e)
		}
	}
}

// firstError is the list of conditions of P5.2.
func firstError(p api.Proposal) api.Errno {
	if p.Admin < 201 || p.Admin > 203 || p.Number < 1 || p.Number > 3 {
		return api.ErrRange
	}
	if len(p.Changes) == 0 {
		return api.ErrInvalid
	}
	if len(p.Changes) > 6 {
		return api.ErrTooLong
	}
	seen := map[[2]int]bool{}
	for _, c := range p.Changes {
		if e := changeError(c); e != api.OK {
			return e
		}
		id := [2]int{c.Kind, c.Server}
		if seen[id] {
			return api.ErrDuplicate
		}
		seen[id] = true
	}
	return api.OK
}

func TestValidateReturnsFirstError(t *testing.T) {
	for _, p := range malformed() {
		if e := Validate(p); e == api.OK || e != firstError(p) {
			t.Errorf("Validate(%v) = %v, want %v", p, e, firstError(p))
		}
	}
	r := rand.New(rand.NewSource(52))
	for _, p := range samples() {
		for range 300 {
			q := copied(p)
			for range 1 + r.Intn(3) {
				fields := numberFields(&q)
				*fields[r.Intn(len(fields))] = []int{-1, 0, 1, 2, 3, 4, 9, 12, 13, 201, 1000, 1001}[r.Intn(12)]
			}
			if i := r.Intn(len(q.Changes)); r.Intn(2) == 0 {
				q.Changes = append(q.Changes, q.Changes[i])
			}
			if e := Validate(q); e != firstError(q) {
				t.Errorf("Validate(%v) = %v, want %v", q, e, firstError(q))
			}
		}
	}
}

// P5.3

// order is the number that P5.3 says for two pairs.
func order(a, b api.Proposal) int {
	switch {
	case a.Admin < b.Admin || a.Admin == b.Admin && a.Number < b.Number:
		return -1
	case a.Admin == b.Admin && a.Number == b.Number:
		return 0
	}
	return 1
}

func TestCompareExamples(t *testing.T) {
	for _, x := range []struct {
		a, b api.Proposal
		want int
	}{
		{of(201, 1), of(201, 1), 0},
		{of(201, 1, remove(1)), of(201, 1, join(2, 3), remove(9)), 0},
		{of(201, 1, remove(9)), of(201, 2, remove(1)), -1},
		{of(201, 3), of(202, 1), -1},
		{of(203, 1), of(202, 3), 1},
		{of(203, 3), of(203, 2), 1},
		{of(math.MinInt, 0), of(math.MaxInt, 0), -1},
		{of(math.MaxInt, 0), of(math.MinInt, 0), 1},
		{of(201, math.MinInt), of(201, math.MaxInt), -1},
		{of(201, math.MaxInt), of(201, math.MinInt), 1},
		{of(0, 1), of(1, 0), -1},
		{api.Proposal{}, api.Proposal{}, 0},
	} {
		if got := Compare(x.a, x.b); got != x.want {
			t.Errorf("Compare(%v, %v) = %d, want %d", x.a, x.b, got, x.want)
		}
	}
}

func TestCompareIsLexicographic(t *testing.T) {
	list := append(samples(), malformed()...)
	for _, a := range list {
		for _, b := range list {
			if got := Compare(a, b); got != order(a, b) {
				t.Errorf("Compare(%v, %v) = %d, want %d", a, b, got, order(a, b))
			}
		}
	}
}

func TestEqualComparesAllFields(t *testing.T) {
	for _, p := range append(samples(), malformed()...) {
		if !Equal(p, copied(p)) {
			t.Errorf("%v is not equal to its copy", p)
		}
		q := copied(p)
		for i, field := range numberFields(&q) {
			*field ^= 1
			if Equal(p, q) || Equal(q, p) {
				t.Errorf("%v is equal to %v, which differs in number %d", p, q, i)
			}
			*field ^= 1
		}
	}
}

func TestEqualComparesChangesOneByOne(t *testing.T) {
	p := of(201, 1, join(1, 2), remove(3), rule(grid, 4))
	c := p.Changes
	for _, q := range []api.Proposal{
		of(201, 1), of(201, 1, c[0]), of(201, 1, c[:2]...), of(201, 1, c[1:]...), of(201, 1, c[0], c[1], c[2], c[2]), of(201, 1, c[0], c[1], c[2], api.Change{}),
		of(201, 1, c[1], c[0], c[2]), of(201, 1, c[0], c[2], c[1]), of(201, 1, c[0], c[0], c[2]), of(201, 1, c[0], c[1], c[1]),
	} {
		if Equal(p, q) || Equal(q, p) {
			t.Errorf("%v is equal to %v", p, q)
		}
	}
	list := append(samples(), malformed()...)
	for _, a := range list {
		for _, b := range list {
			if got := Equal(a, b); got != same(a, b) {
				t.Errorf("Equal(%v, %v) = %v", a, b, got)
			}
		}
	}
}

// P5.4

// numbers encodes numbers one after the other.
func numbers(list ...uint64) []byte {
	var b []byte
	for _, n := range list {
		b = binary.AppendUvarint(b, n)
	}
	return b
}

// fields returns the numbers of the encoding of p.
func fields(p api.Proposal) []uint64 {
	var out []uint64
	for i, field := range numberFields(&p) {
		if i == 2 {
			out = append(out, uint64(len(p.Changes)))
		}
		out = append(out, uint64(*field))
	}
	return out
}

func TestAppendExample(t *testing.T) {
	p := of(202, 3, join(4, 2), remove(1), weight(5, 9, 1000), rule(grid, 7), join(12, 1))
	want := numbers(202, 3, 5, 1, 4, 2, 0, 0, 0, 0, 2, 1, 0, 0, 0, 0, 0, 3, 5, 9, 1000, 0, 0, 0, 4, 0, 0, 7, 3, 3, 0, 1, 12, 1, 0, 0, 0, 0)
	if got := Append([]byte("ab"), p); !bytes.Equal(got, append([]byte("ab"), want...)) {
		t.Errorf("Append(ab, %v) = %v, want ab and %v", p, got, want)
	}
	if got := Append(nil, of(201, 1, rule(masking, 1))); !bytes.Equal(got, []byte{201, 1, 1, 1, 4, 0, 0, 1, 4, 0, 2}) {
		t.Errorf("Append of a masking rule = %v", got)
	}
}

func TestAppendIsAllNumbers(t *testing.T) {
	for _, p := range samples() {
		if got, want := Append([]byte{7}, p), append([]byte{7}, numbers(fields(p)...)...); !bytes.Equal(got, want) {
			t.Errorf("Append(7, %v) = %v, want %v", p, got, want)
		}
	}
}

func TestDecodeErrors(t *testing.T) {
	overlong, tooGreat := []byte{128, 0}, bytes.Repeat([]byte{255}, 10)
	with := func(parts ...[]byte) []byte { return bytes.Join(parts, nil) }
	for _, x := range []struct {
		name string
		b    []byte
		e    api.Errno
	}{
		{"nothing", nil, api.ErrTruncated},
		{"an admin that is overlong", overlong, api.ErrInvalid},
		{"an admin of more than 64 bits", tooGreat, api.ErrRange},
		{"an admin of 2^31", numbers(1 << 31), api.ErrRange},
		{"an admin of 2^31 - 1 alone", numbers(1<<31 - 1), api.ErrTruncated},
		{"an admin of 2^31 - 1", numbers(1<<31-1, 1, 0), api.ErrRange},
		{"an admin of 2^32 + 201", numbers(1<<32+201, 1, 1, 2, 1, 0, 0, 0, 0, 0), api.ErrRange},
		{"an admin of 2^64 - 1", numbers(math.MaxUint64), api.ErrRange},
		{"a number that is overlong", with(numbers(201), overlong), api.ErrInvalid},
		{"a number of 2^31", numbers(201, 1<<31), api.ErrRange},
		{"no number of changes", numbers(201, 1), api.ErrTruncated},
		{"a number of changes of 7", numbers(201, 1, 7), api.ErrTooLong},
		{"a number of changes of 2^31 - 1", numbers(201, 1, 1<<31-1), api.ErrTooLong},
		{"a number of changes of 2^31", numbers(201, 1, 1<<31), api.ErrRange},
		{"a number of changes of 2^63", numbers(201, 1, 1<<63), api.ErrRange},
		{"a number of changes that is overlong", with(numbers(201, 1), []byte{135, 0}), api.ErrInvalid},
		{"a number of changes of 6 alone", numbers(201, 1, 6), api.ErrTruncated},
		{"no changes", numbers(201, 1, 0), api.ErrInvalid},
		{"a last field that is overlong", with(numbers(201, 1, 1, 2, 3, 0, 0, 0, 0), overlong), api.ErrInvalid},
		{"a last field of 2^31", numbers(201, 1, 1, 2, 3, 0, 0, 0, 0, 1<<31), api.ErrRange},
		{"a last field too few", numbers(201, 1, 1, 2, 3, 0, 0, 0, 0), api.ErrTruncated},
		{"a second change too few", numbers(201, 1, 2, 2, 3, 0, 0, 0, 0, 0), api.ErrTruncated},
		{"a server of 2^32 + 3", numbers(201, 1, 1, 2, 1<<32+3, 0, 0, 0, 0, 0), api.ErrRange},
		{"an unknown kind", numbers(201, 1, 1, 9, 3, 0, 0, 0, 0, 0), api.ErrKind},
		{"a change with a rule", numbers(201, 1, 1, 2, 3, 0, 0, 1, 0, 0), api.ErrInvalid},
		{"a rule of an unknown kind", numbers(201, 1, 1, 4, 0, 0, 1, 5, 0, 0), api.ErrKind},
		{"a duplicate", numbers(201, 1, 2, 2, 3, 0, 0, 0, 0, 0, 2, 3, 0, 0, 0, 0, 0), api.ErrDuplicate},

		{"the number of changes before the admin", numbers(0, 0, 7), api.ErrTooLong},
		{"the numbers before the admin", numbers(0, 0, 1, 2, 3, 0, 0, 0, 0), api.ErrTruncated},
		{"the numbers before a bad change", numbers(201, 1, 2, 9, 99, 0, 0, 0, 0, 0, 1), api.ErrTruncated},
		{"an overlong number before a bad change", with(numbers(201, 1, 1, 9, 99, 0, 0, 0, 0), overlong), api.ErrInvalid},
		{"a number too great before one that is overlong", with(numbers(201, 1, 1, 1<<31), overlong), api.ErrRange},
		{"an overlong number before one too great", with(numbers(201, 1, 1), overlong, numbers(1<<31)), api.ErrInvalid},
		{"a number too great before too many changes", numbers(201, 1<<31, 7), api.ErrRange},
		{"too many changes before the end", numbers(201, 1, 8), api.ErrTooLong},
		{"too many changes before one that is overlong", with(numbers(201, 1, 7), overlong), api.ErrTooLong},
	} {
		if p, n, e := Decode(x.b); !same(p, api.Proposal{}) || n != 0 || e != x.e {
			t.Errorf("%s: Decode(%v) = %v, %d, %v, want %v", x.name, x.b, p, n, e, x.e)
		}
	}
}

// decoded is P5.4: what Decode returns for b.
func decoded(b []byte) (api.Proposal, int, api.Errno) {
	var list []int
	used := 0
	for len(list) < 3 || len(list) < 3+7*list[2] {
		v, n, e := wire.Uint(b[used:])
		switch {
		case e != api.OK:
			return api.Proposal{}, 0, e
		case v >= 1<<31:
			return api.Proposal{}, 0, api.ErrRange
		case len(list) == 2 && v > 6:
			return api.Proposal{}, 0, api.ErrTooLong
		}
		list = append(list, int(v))
		used += n
	}
	p := api.Proposal{Admin: list[0], Number: list[1]}
	for c := range slices.Chunk(list[3:], 7) {
		p.Changes = append(p.Changes, api.Change{Kind: c[0], Server: c[1], Weight: c[2], Version: c[3], Rule: api.Rule{Kind: c[4], Columns: c[5], Faulty: c[6]}})
	}
	if e := firstError(p); e != api.OK {
		return api.Proposal{}, 0, e
	}
	return p, used, api.OK
}

// checkDecode checks what Decode returns for b, and that it accepts nothing but the encoding of what it returns.
func checkDecode(t *testing.T, b []byte) {
	t.Helper()
	p, n, e := Decode(b)
	want, wantN, wantE := decoded(b)
	if !same(p, want) || n != wantN || e != wantE {
		t.Errorf("Decode(%v) = %v, %d, %v, want %v, %d, %v", b, p, n, e, want, wantN, wantE)
	}
	if e == api.OK && !bytes.Equal(Append(nil, p), b[:n]) {
		t.Errorf("Decode(%v) = %v, %d: it consumes another encoding", b, p, n)
	}
}

// Each number of an encoding is replaced by numbers at which a decision changes, and by bytes that are no number.
func TestDecodeOfChangedEncodings(t *testing.T) {
	bad := [][]byte{nil, {128}, {128, 0}, {129, 128, 0}, bytes.Repeat([]byte{128}, 10), append(bytes.Repeat([]byte{128}, 9), 2), bytes.Repeat([]byte{255}, 12)}
	for _, n := range []uint64{0, 1, 2, 3, 4, 5, 6, 7, 9, 10, 12, 13, 127, 128, 200, 201, 203, 204, 1000, 1001, 1<<31 - 1, 1 << 31, 1 << 32, 1<<32 + 1, 1 << 63, math.MaxUint64} {
		bad = append(bad, numbers(n))
	}
	for _, p := range samples() {
		list := fields(p)
		for i := range list {
			for _, x := range bad {
				checkDecode(t, bytes.Join([][]byte{numbers(list[:i]...), x, numbers(list[i+1:]...)}, nil))
				checkDecode(t, append(numbers(list[:i]...), x...))
			}
		}
	}
}

func TestDecodeOfTwoChangedNumbers(t *testing.T) {
	r := rand.New(rand.NewSource(54))
	for _, p := range samples() {
		for range 200 {
			list := fields(p)
			for range 2 {
				list[r.Intn(len(list))] = []uint64{0, 1, 2, 4, 6, 7, 13, 201, 1001, 1<<31 - 1, 1 << 31}[r.Intn(11)]
			}
			checkDecode(t, numbers(list...))
		}
	}
}

func TestPrefixesOfEncodingsAreTruncated(t *testing.T) {
	for _, p := range samples() {
		b := Append(nil, p)
		for i := range b {
			if q, n, e := Decode(b[:i]); !same(q, api.Proposal{}) || n != 0 || e != api.ErrTruncated {
				t.Errorf("Decode(%v) = %v, %d, %v", b[:i], q, n, e)
			}
		}
	}
}

// P5.5

func TestEncodingsDecode(t *testing.T) {
	for _, p := range samples() {
		b := Append(nil, p)
		for _, tail := range []string{"", "\x00", "\x01", "\x80", "\xff\xff\xff\xff\xff\xff\xff\xff\xff\xff\xff", string(b)} {
			if q, n, e := Decode(append(bytes.Clone(b), tail...)); !same(p, q) || n != len(b) || e != api.OK {
				t.Errorf("Decode of the encoding of %v = %v, %d, %v", p, q, n, e)
			}
		}
	}
}

// R1

// callAll calls all functions with a and b.
func callAll(a, b api.Proposal) {
	Validate(a)
	for _, c := range a.Changes {
		ValidateChange(c)
	}
	Compare(a, b)
	Equal(a, b)
	Decode(Append(Append(nil, a), b))
}

func TestMalformedProposals(t *testing.T) {
	list := append(malformed(), samples()[:9]...)
	for _, a := range list {
		for _, b := range list {
			callAll(a, b)
		}
	}
}

// R2

// withRoom returns a copy of list with room behind it into which an append could write.
func withRoom[E any](list []E) []E {
	out := make([]E, len(list)+100)
	return out[:copy(out, list)]
}

// whole returns list with the elements behind it that an append could reach.
func whole[E any](list []E) []E { return list[:cap(list)] }

func TestArgumentsAreKept(t *testing.T) {
	for _, p := range append(samples(), malformed()...) {
		q := p
		q.Changes = withRoom(p.Changes)
		b := withRoom([]byte("before"))
		callAll(q, q)
		Append(b, q)
		if !slices.Equal(whole(q.Changes), whole(withRoom(p.Changes))) || !bytes.Equal(whole(b), whole(withRoom([]byte("before")))) {
			t.Fatalf("the arguments have become %v, %v", whole(q.Changes), whole(b))
		}
		encoded := withRoom(numbers(fields(p)...))
		Decode(encoded)
		if !bytes.Equal(whole(encoded), whole(withRoom(numbers(fields(p)...)))) {
			t.Fatalf("Decode has written into its argument: %v", whole(encoded))
		}
	}
}

func TestAppendReturnsNewMemory(t *testing.T) {
	for _, p := range samples() {
		for _, text := range []string{"", "before"} {
			b := withRoom([]byte(text))
			first, second := Append(b, p), Append(b, p)
			want := append([]byte(text), numbers(fields(p)...)...)
			for i := range whole(b) {
				whole(b)[i] = '!'
			}
			if !bytes.Equal(first, want) {
				t.Fatalf("the result has changed with the argument: %v", first)
			}
			for i := range whole(first) {
				whole(first)[i] = '?'
			}
			if !bytes.Equal(second, want) {
				t.Fatalf("a result has changed with another one: %v", second)
			}
		}
	}
}

func TestDecodeReturnsNewMemory(t *testing.T) {
	for _, p := range samples() {
		b := Append(nil, p)
		first, _, _ := Decode(b)
		second, _, _ := Decode(b)
		clear(b)
		if !same(first, p) {
			t.Fatalf("the result has changed with the argument: %v", first)
		}
		clear(whole(first.Changes))
		if !same(second, p) {
			t.Fatalf("a result has changed with another one: %v", second)
		}
	}
}

// R5

func TestNilIsEmpty(t *testing.T) {
	p, q := of(201, 1), api.Proposal{Admin: 201, Number: 1, Changes: []api.Change{}}
	if !Equal(p, q) || !Equal(q, p) || Compare(p, q) != 0 || Validate(p) != Validate(q) {
		t.Errorf("nil and empty lists of changes differ")
	}
	for _, p := range append(samples(), p, q) {
		if a, b := Append(nil, p), Append([]byte{}, p); !bytes.Equal(a, b) || len(a) == 0 {
			t.Errorf("Append(%v) gives %v to nil and %v to an empty slice", p, a, b)
		}
	}
	for _, b := range [][]byte{nil, {}} {
		if p, n, e := Decode(b); !same(p, api.Proposal{}) || n != 0 || e != api.ErrTruncated {
			t.Errorf("Decode of nothing = %v, %d, %v", p, n, e)
		}
	}
}

// R9

func TestLongArguments(t *testing.T) {
	long := of(201, 1, make([]api.Change, 1<<18)...)
	other := copied(long)
	other.Changes[len(other.Changes)-1].Rule.Faulty = 1
	if Validate(long) != api.ErrTooLong || !Equal(long, copied(long)) || Equal(long, other) {
		t.Errorf("Validate or Equal of a long list of changes")
	}
	if got := Append(nil, long); !bytes.Equal(got[:7], numbers(201, 1, 1<<18, 0)) || len(got) != 6+7*len(long.Changes) {
		t.Errorf("Append of a long list of changes has %d bytes", len(got))
	}
	before := bytes.Repeat([]byte("x"), 1<<24)
	p := samples()[5]
	encoded := Append(before, p)
	if !bytes.Equal(encoded[:len(before)], before) {
		t.Errorf("Append has not kept the bytes before")
	}
	after := append(encoded[len(before):], before...)
	if q, n, e := Decode(after); !same(p, q) || n != len(after)-len(before) || e != api.OK {
		t.Errorf("Decode before many bytes = %v, %d, %v", q, n, e)
	}
}

func FuzzDecode(f *testing.F) {
	for _, p := range samples()[:12] {
		f.Add(Append(nil, p))
	}
	f.Add(numbers(201, 1, 2, 2, 3, 0, 0, 0, 0, 0, 2, 3, 0, 0, 0, 0, 0))
	f.Add(numbers(201, 1, 7))
	f.Add([]byte{201, 1, 1, 1, 128, 0})
	f.Fuzz(func(t *testing.T, b []byte) {
		before := bytes.Clone(b)
		checkDecode(t, b)
		if !bytes.Equal(b, before) {
			t.Errorf("Decode has changed %v to %v", before, b)
		}
	})
}
