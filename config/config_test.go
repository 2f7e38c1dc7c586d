package config

import (
	"bytes"
	"encoding/binary"
	"math"
	"math/rand"
	"reflect"
	"slices"
	"testing"

	"elasticstore/api"
	"elasticstore/proposal"
	"elasticstore/vector"
	"elasticstore/wire"
)

// admins are all identifiers of administrators.
var admins = [...]int{201, 202, 203}

// sample returns the proposal with an identifier that occurs in these tests. Proposals differ in their changes, too.
func sample(admin, number int) api.Proposal {
	i := (admin-201)*3 + number // 1 to 9
	changes := []api.Change{
		{Kind: api.ChangeJoin, Server: i, Weight: i},
		{Kind: api.ChangeRule, Version: 100 * i, Rule: api.Rule{Kind: api.RuleGrid, Columns: i}},
		{Kind: api.ChangeWeight, Server: i + 3, Weight: 10 - i, Version: 1000 / i},
		{Kind: api.ChangeRemove, Server: 13 - i},
		{Kind: api.ChangeRemove, Server: i},
		{Kind: api.ChangeJoin, Server: i + 1, Weight: 1},
	}
	return api.Proposal{Admin: admin, Number: number, Changes: changes[:1+i%6]}
}

// samples returns the proposals of all identifiers, ascending.
func samples() []api.Proposal {
	var out []api.Proposal
	for _, admin := range admins {
		for number := 1; number <= 3; number++ {
			out = append(out, sample(admin, number))
		}
	}
	return out
}

// counts is the model of a configuration: the number of proposals of 201, 202 and 203.
type counts [3]int

// config returns the configuration with the first proposals of each administrator.
func (n counts) config() api.Config {
	var c api.Config
	for i, admin := range admins {
		for number := 1; number <= n[i]; number++ {
			c = append(c, sample(admin, number))
		}
	}
	return c
}

// vector returns the vector of the counts that are not 0.
func (n counts) vector() api.Vector {
	var v api.Vector
	for i, admin := range admins {
		if n[i] > 0 {
			v = append(v, api.Entry{Author: admin, Count: n[i]})
		}
	}
	return v
}

// atMost returns the models of all configurations with up to most proposals of each administrator.
func atMost(most int) []counts {
	var out []counts
	for x := range most + 1 {
		for y := range most + 1 {
			for z := range most + 1 {
				out = append(out, counts{x, y, z})
			}
		}
	}
	return out
}

// of returns a configuration of proposals that need not be valid.
func of(list ...api.Proposal) api.Config { return list }

// identified returns a valid proposal if the identifier is valid.
func identified(admin, number int) api.Proposal {
	return api.Proposal{Admin: admin, Number: number, Changes: []api.Change{{Kind: api.ChangeRemove, Server: 1}}}
}

// malformed returns configurations that are not valid.
func malformed() []api.Config {
	list := samples()
	backwards := slices.Clone(list)
	slices.Reverse(backwards)
	return []api.Config{
		of(list[1]), of(list[0], list[2]), of(list[0], list[4]), of(list[8]), of(list[2], list[5], list[8]), of(list[0], list[0]), of(list[3], list[0]),
		backwards, append(slices.Clone(list), list...), of(api.Proposal{}), make(api.Config, 20), of(list[0], api.Proposal{}, list[1]),
		of(identified(201, 0)), of(identified(201, 1), identified(201, 2), identified(201, 3), identified(201, 4)),
		of(identified(200, 1)), of(identified(204, 1)), of(identified(1, 1)), of(identified(101, 1), list[0]), of(identified(201, -1), list[0]),
		of(identified(math.MinInt, math.MaxInt), identified(math.MaxInt, math.MinInt)), of(identified(math.MaxInt, math.MaxInt), identified(math.MinInt, math.MinInt)),
		of(identified(201, math.MaxInt), identified(201, math.MinInt)), of(identified(201, math.MinInt), identified(201, math.MaxInt), list[3]),
		of(api.Proposal{Admin: 201, Number: 1}), of(api.Proposal{Admin: 201, Number: 1, Changes: make([]api.Change, 100)}),
		of(list[0], api.Proposal{Admin: 201, Number: 1, Changes: list[1].Changes}),
	}
}

// same reports whether c and d are equal, by reflection instead of Equal.
func same(c, d api.Config) bool {
	return len(c) == 0 && len(d) == 0 || reflect.DeepEqual(c, d)
}

// deep returns a copy of c with other memory.
func deep(c api.Config) api.Config {
	var out api.Config
	for _, p := range c {
		p.Changes = append([]api.Change(nil), p.Changes...)
		out = append(out, p)
	}
	return out
}

// P6.1

func TestValidate(t *testing.T) {
	for _, n := range atMost(3) {
		if e := Validate(n.config()); e != api.OK {
			t.Errorf("Validate(%v) = %v", n, e)
		}
	}
	p, bad := identified, func(admin, number int) api.Proposal { return api.Proposal{Admin: admin, Number: number} }
	for _, x := range []struct {
		name string
		c    api.Config
		e    api.Errno
	}{
		{"the same numbers of two administrators", of(p(201, 1), p(201, 2), p(203, 1), p(203, 2)), api.OK},
		{"all proposals", of(p(201, 1), p(201, 2), p(201, 3), p(202, 1), p(202, 2), p(202, 3), p(203, 1), p(203, 2), p(203, 3)), api.OK},

		{"the zero value of a proposal", of(api.Proposal{}), api.ErrRange},
		{"admin 200", of(p(200, 1)), api.ErrRange},
		{"admin 204", of(p(201, 1), p(204, 1)), api.ErrRange},
		{"number 0", of(p(201, 0)), api.ErrRange},
		{"number -1", of(p(201, -1)), api.ErrRange},
		{"number 4", of(p(201, 1), p(201, 2), p(201, 3), p(201, 4)), api.ErrRange},
		{"no changes", of(p(201, 1), bad(201, 2)), api.ErrInvalid},
		{"seven changes", of(api.Proposal{Admin: 201, Number: 1, Changes: make([]api.Change, 7)}), api.ErrTooLong},
		{"a change of no kind", of(api.Proposal{Admin: 201, Number: 1, Changes: make([]api.Change, 1)}), api.ErrKind},
		{"a change twice", of(api.Proposal{Admin: 201, Number: 1, Changes: []api.Change{p(201, 1).Changes[0], p(201, 1).Changes[0]}}), api.ErrDuplicate},

		{"a proposal twice", of(p(201, 1), p(201, 1)), api.ErrOrder},
		{"a second proposal twice", of(p(201, 1), p(201, 2), p(201, 2)), api.ErrOrder},
		{"an identifier twice with other changes", of(p(201, 1), sample(201, 1)), api.ErrOrder},
		{"administrators descending", of(p(202, 1), p(201, 1)), api.ErrOrder},
		{"numbers descending", of(p(201, 1), p(201, 2), p(201, 1)), api.ErrOrder},
		{"an administrator again", of(p(201, 1), p(202, 1), p(201, 2)), api.ErrOrder},

		{"number 2 first", of(p(201, 2)), api.ErrGap},
		{"number 3 first", of(p(203, 3)), api.ErrGap},
		{"number 3 behind number 1", of(p(201, 1), p(201, 3)), api.ErrGap},
		{"number 2 behind number 1 of another administrator", of(p(201, 1), p(202, 2)), api.ErrGap},
		{"number 3 behind number 2 of another administrator", of(p(201, 1), p(201, 2), p(202, 3)), api.ErrGap},
		{"number 2 at the end", of(p(201, 1), p(202, 1), p(203, 2)), api.ErrGap},

		{"the error of a proposal before order", of(p(202, 1), bad(201, 1)), api.ErrInvalid},
		{"the error of a proposal before order and gap", of(p(202, 1), bad(201, 2)), api.ErrInvalid},
		{"the error of a proposal before gap", of(bad(201, 2)), api.ErrInvalid},
		{"a range before order", of(p(201, 1), p(201, 0)), api.ErrRange},
		{"a range before gap", of(p(201, 4)), api.ErrRange},
		{"order before gap", of(p(202, 1), p(201, 2)), api.ErrOrder},
		{"order before gap of the same administrator", of(p(201, 1), p(201, 2), p(201, 3), p(201, 2)), api.ErrOrder},
		{"order before the error of a later proposal", of(p(201, 1), p(201, 1), bad(201, 1)), api.ErrOrder},
		{"order before a later gap", of(p(202, 1), p(201, 1), p(203, 2)), api.ErrOrder},
		{"gap before the error of a later proposal", of(p(201, 2), bad(201, 1)), api.ErrGap},
		{"gap before a later order", of(p(201, 2), p(201, 1)), api.ErrGap},
	} {
		if e := Validate(x.c); e != x.e {
			t.Errorf("%s: Validate(%v) = %v, want %v", x.name, x.c, e, x.e)
		}
	}
}

// firstError is the list of conditions of P6.1.
func firstError(c api.Config) api.Errno {
	for i, p := range c {
		if e := proposal.Validate(p); e != api.OK {
			return e
		}
		if i > 0 && (p.Admin < c[i-1].Admin || p.Admin == c[i-1].Admin && p.Number <= c[i-1].Number) {
			return api.ErrOrder
		}
		if p.Number >= 2 && (i == 0 || c[i-1].Admin != p.Admin || c[i-1].Number+1 != p.Number) {
			return api.ErrGap
		}
	}
	return api.OK
}

// All lists of up to four proposals are examined, where some of the proposals are not valid.
func TestValidateReturnsFirstError(t *testing.T) {
	pool := append(samples(), api.Proposal{}, api.Proposal{Admin: 202, Number: 2}, identified(202, 4), identified(201, 0), identified(204, 2))
	lists := []api.Config{nil}
	for start, size := 0, 0; size < 4; size++ {
		end := len(lists)
		for _, c := range lists[start:end] {
			for _, p := range pool {
				lists = append(lists, append(slices.Clip(c), p))
			}
		}
		start = end
	}
	for _, c := range append(lists, malformed()...) {
		if e := Validate(c); e != firstError(c) {
			t.Errorf("Validate(%v) = %v, want %v", c, e, firstError(c))
		}
	}
}

// P6.2

func TestVector(t *testing.T) {
	for _, x := range []struct {
		c    api.Config
		want api.Vector
	}{
		{nil, nil},
		{of(sample(202, 1)), api.Vector{{Author: 202, Count: 1}}},
		{of(sample(201, 1), sample(201, 2), sample(203, 1)), api.Vector{{Author: 201, Count: 2}, {Author: 203, Count: 1}}},
		{samples(), api.Vector{{Author: 201, Count: 3}, {Author: 202, Count: 3}, {Author: 203, Count: 3}}},
	} {
		if got := Vector(x.c); !slices.Equal(got, x.want) {
			t.Errorf("Vector(%v) = %v, want %v", x.c, got, x.want)
		}
	}
	for _, n := range atMost(3) {
		if got := Vector(n.config()); !slices.Equal(got, n.vector()) || vector.Validate(got) != api.OK {
			t.Errorf("Vector of the configuration of %v = %v", n, got)
		}
	}
}

func TestLatticeExamples(t *testing.T) {
	a := of(sample(201, 1), sample(201, 2), sample(203, 1))
	b := of(sample(201, 1), sample(202, 1), sample(203, 1), sample(203, 2))
	union := of(sample(201, 1), sample(201, 2), sample(202, 1), sample(203, 1), sample(203, 2))
	meet := of(sample(201, 1), sample(203, 1))
	if got := Union(a, b); !same(got, union) {
		t.Errorf("Union = %v", got)
	}
	if got := Meet(a, b); !same(got, meet) {
		t.Errorf("Meet = %v", got)
	}
	for _, x := range []struct {
		name            string
		a, b            api.Config
		contains, equal bool
	}{
		{"two that are not comparable", a, b, false, false},
		{"two that are not comparable, the other way", b, a, false, false},
		{"the union", union, a, true, false},
		{"the union, the other way", a, union, false, false},
		{"the meet", b, meet, true, false},
		{"the meet, the other way", meet, b, false, false},
		{"the same", a, deep(a), true, true},
		{"the empty configuration in another one", a, nil, true, false},
		{"another one in the empty configuration", nil, a, false, false},
		{"empty configurations", nil, api.Config{}, true, true},
		{"as many proposals of another administrator", of(sample(201, 1)), of(sample(202, 1)), false, false},
		{"the last proposal missing", a[:2], a, false, false},
	} {
		if got := Contains(x.a, x.b); got != x.contains {
			t.Errorf("%s: Contains = %v", x.name, got)
		}
		if got := Equal(x.a, x.b); got != x.equal {
			t.Errorf("%s: Equal = %v", x.name, got)
		}
	}
}

// set returns the proposals of c by their identifiers.
func set(c api.Config) map[[2]int]api.Proposal {
	m := map[[2]int]api.Proposal{}
	for _, p := range c {
		m[[2]int{p.Admin, p.Number}] = p
	}
	return m
}

// ascending returns the proposals of a set in their order.
func ascending(m map[[2]int]api.Proposal) api.Config {
	var c api.Config
	for _, admin := range admins {
		for number := 1; number <= 3; number++ {
			if p, ok := m[[2]int{admin, number}]; ok {
				c = append(c, p)
			}
		}
	}
	return c
}

func setUnion(a, b api.Config) api.Config {
	m := set(a)
	for id, p := range set(b) {
		m[id] = p
	}
	return ascending(m)
}

func setMeet(a, b api.Config) api.Config {
	m, other := set(a), set(b)
	for id := range set(a) {
		if _, ok := other[id]; !ok {
			delete(m, id)
		}
	}
	return ascending(m)
}

func TestOperationsOfSets(t *testing.T) {
	for _, n := range atMost(3) {
		for _, m := range atMost(3) {
			a, b := n.config(), m.config()
			union, meet := setUnion(a, b), setMeet(a, b)
			if got := Union(a, b); !same(got, union) || Validate(got) != api.OK {
				t.Errorf("Union of %v and %v = %v", n, m, got)
			}
			if got := Meet(a, b); !same(got, meet) || Validate(got) != api.OK {
				t.Errorf("Meet of %v and %v = %v", n, m, got)
			}
			if got := Contains(a, b); got != same(meet, b) {
				t.Errorf("Contains of %v and %v = %v", n, m, got)
			}
			if got := Equal(a, b); got != (n == m) {
				t.Errorf("Equal of %v and %v = %v", n, m, got)
			}
		}
	}
}

// P6.3

func TestAdd(t *testing.T) {
	other := identified(201, 1) // other changes than those of the proposal in the configurations
	bad := func(admin, number int) api.Proposal { return api.Proposal{Admin: admin, Number: number} }
	for _, x := range []struct {
		name string
		n    counts
		p    api.Proposal
		want counts
		e    api.Errno
	}{
		{"the first proposal", counts{}, sample(202, 1), counts{0, 1, 0}, api.OK},
		{"at the beginning", counts{0, 2, 3}, sample(201, 1), counts{1, 2, 3}, api.OK},
		{"between others", counts{2, 1, 1}, sample(202, 2), counts{2, 2, 1}, api.OK},
		{"at the end", counts{3, 3, 2}, sample(203, 3), counts{3, 3, 3}, api.OK},
		{"the only one again", counts{1, 0, 0}, sample(201, 1), counts{}, api.ErrDuplicate},
		{"the last one again", counts{0, 0, 3}, sample(203, 3), counts{}, api.ErrDuplicate},
		{"an earlier one again", counts{3, 1, 0}, sample(201, 2), counts{}, api.ErrDuplicate},
		{"an identifier again with other changes", counts{1, 1, 1}, other, counts{}, api.ErrDuplicate},
		{"number 2 of none", counts{}, sample(201, 2), counts{}, api.ErrGap},
		{"number 3 of none", counts{3, 0, 3}, sample(202, 3), counts{}, api.ErrGap},
		{"number 3 behind number 1", counts{1, 2, 2}, sample(201, 3), counts{}, api.ErrGap},
		{"number 2 behind number 1 of another administrator", counts{1, 0, 1}, sample(202, 2), counts{}, api.ErrGap},
		{"no changes", counts{}, bad(201, 1), counts{}, api.ErrInvalid},
		{"admin 204", counts{}, identified(204, 1), counts{}, api.ErrRange},
		{"number 0", counts{}, identified(201, 0), counts{}, api.ErrRange},
		{"number 4", counts{3, 0, 0}, identified(201, 4), counts{}, api.ErrRange},
		{"the error of the proposal before duplicate", counts{1, 0, 0}, bad(201, 1), counts{}, api.ErrInvalid},
		{"the error of the proposal before gap", counts{1, 0, 0}, bad(201, 3), counts{}, api.ErrInvalid},
		{"a range before gap", counts{1, 0, 0}, identified(201, 5), counts{}, api.ErrRange},
	} {
		if got, e := Add(x.n.config(), x.p); !same(got, x.want.config()) || e != x.e {
			t.Errorf("%s: Add = %v, %v, want the configuration of %v, %v", x.name, got, e, x.want, x.e)
		}
	}
}

func TestAddEachProposal(t *testing.T) {
	for _, n := range atMost(3) {
		for i, p := range samples() {
			want, wantE := n, api.OK
			want[i/3]++
			switch {
			case p.Number <= n[i/3]:
				want, wantE = counts{}, api.ErrDuplicate
			case p.Number > n[i/3]+1:
				want, wantE = counts{}, api.ErrGap
			}
			if got, e := Add(n.config(), p); !same(got, want.config()) || e != wantE {
				t.Errorf("Add of (%d, %d) to %v = %v, %v, want the configuration of %v, %v", p.Admin, p.Number, n, got, e, want, wantE)
			}
		}
	}
}

// P6.4

func TestRestrict(t *testing.T) {
	all := samples()
	for _, x := range []struct {
		name string
		v    api.Vector
		want counts
	}{
		{"an empty vector", nil, counts{}},
		{"one administrator", api.Vector{{Author: 202, Count: 2}}, counts{0, 2, 0}},
		{"two administrators", api.Vector{{Author: 201, Count: 1}, {Author: 203, Count: 3}}, counts{1, 0, 3}},
		{"more than there are", api.Vector{{Author: 201, Count: 4}, {Author: 202, Count: 1000000}}, counts{3, 3, 0}},
		{"other processes", api.Vector{{Author: 1, Count: 3}, {Author: 101, Count: 3}, {Author: 203, Count: 1}, {Author: 204, Count: 3}}, counts{0, 0, 1}},
	} {
		if got := Restrict(all, x.v); !same(got, x.want.config()) {
			t.Errorf("%s: Restrict = %v, want the configuration of %v", x.name, got, x.want)
		}
	}
	for _, n := range atMost(3) {
		for _, m := range atMost(4) {
			want := counts{min(n[0], m[0]), min(n[1], m[1]), min(n[2], m[2])}
			if got := Restrict(n.config(), m.vector()); !same(got, want.config()) {
				t.Errorf("Restrict of %v to %v = %v", n, m, got)
			}
		}
	}
}

// P6.5

// numbers encodes numbers one after the other.
func numbers(list ...uint64) []byte {
	var b []byte
	for _, n := range list {
		b = binary.AppendUvarint(b, n)
	}
	return b
}

// encoded returns the encoding of c, from the numbers of its proposals.
func encoded(c api.Config) []byte {
	list := []uint64{uint64(len(c))}
	for _, p := range c {
		list = append(list, uint64(p.Admin), uint64(p.Number), uint64(len(p.Changes)))
		for _, x := range p.Changes {
			for _, n := range []int{x.Kind, x.Server, x.Weight, x.Version, x.Rule.Kind, x.Rule.Columns, x.Rule.Faulty} {
				list = append(list, uint64(n))
			}
		}
	}
	return numbers(list...)
}

func TestAppendExamples(t *testing.T) {
	for _, x := range []struct {
		c    api.Config
		want []byte
	}{
		{nil, []byte{0}},
		{of(identified(201, 1)), []byte{1, 201, 1, 1, 1, 2, 1, 0, 0, 0, 0, 0}},
		{of(identified(202, 1), identified(202, 2)), []byte{2, 202, 1, 1, 1, 2, 1, 0, 0, 0, 0, 0, 202, 1, 2, 1, 2, 1, 0, 0, 0, 0, 0}},
	} {
		for _, before := range []string{"", "ab"} {
			if got := Append([]byte(before), x.c); !bytes.Equal(got, append([]byte(before), x.want...)) {
				t.Errorf("Append(%q, %v) = %v, want %q and %v", before, x.c, got, before, x.want)
			}
		}
	}
}

func TestAppendIsProposalsOneByOne(t *testing.T) {
	for _, n := range atMost(3) {
		c := n.config()
		want := wire.AppendUint([]byte{7}, uint64(len(c)))
		for _, p := range c {
			want = proposal.Append(want, p)
		}
		if got := Append([]byte{7}, c); !bytes.Equal(got, want) || !bytes.Equal(got[1:], encoded(c)) {
			t.Errorf("Append(7, %v) = %v, want %v", c, got, want)
		}
	}
}

func TestDecodeExamples(t *testing.T) {
	for _, x := range []struct {
		b    []byte
		want api.Config
		n    int
	}{
		{[]byte{0}, nil, 1},
		{[]byte{0, 7}, nil, 1},
		{[]byte{1, 201, 1, 1, 1, 2, 1, 0, 0, 0, 0, 0}, of(identified(201, 1)), 12},
		{[]byte{2, 202, 1, 1, 1, 2, 1, 0, 0, 0, 0, 0, 202, 1, 2, 1, 2, 1, 0, 0, 0, 0, 0, 128}, of(identified(202, 1), identified(202, 2)), 23},
	} {
		if got, n, e := Decode(x.b); !same(got, x.want) || n != x.n || e != api.OK {
			t.Errorf("Decode(%v) = %v, %d, %v, want %v, %d", x.b, got, n, e, x.want, x.n)
		}
	}
}

func TestDecodeErrors(t *testing.T) {
	with := func(parts ...[]byte) []byte { return bytes.Join(parts, nil) }
	p := func(admin, number uint64) []byte { return numbers(admin, number, 1, 2, 1, 0, 0, 0, 0, 0) }
	nine := encoded(samples())[1:]
	for _, x := range []struct {
		name string
		b    []byte
		e    api.Errno
	}{
		{"nothing", nil, api.ErrTruncated},
		{"a size that does not end", []byte{128}, api.ErrTruncated},
		{"a size that is overlong", []byte{128, 0}, api.ErrInvalid},
		{"a size too great that is overlong", []byte{138, 0}, api.ErrInvalid},
		{"a size of more than 64 bits", bytes.Repeat([]byte{255}, 10), api.ErrRange},
		{"a size of 10", with([]byte{10}, nine, p(204, 1)), api.ErrTooLong},
		{"a size of 10 alone", []byte{10}, api.ErrTooLong},
		{"a size of 2^31", numbers(1 << 31), api.ErrTooLong},
		{"a size of 2^32", numbers(1 << 32), api.ErrTooLong},
		{"a size of 2^32 + 1", with(numbers(1<<32+1), p(201, 1)), api.ErrTooLong},
		{"a size of 2^63", numbers(1 << 63), api.ErrTooLong},
		{"a size of 2^64 - 1", numbers(math.MaxUint64), api.ErrTooLong},
		{"a size of 9 alone", []byte{9}, api.ErrTruncated},
		{"a proposal too few", with([]byte{2}, p(201, 1)), api.ErrTruncated},
		{"a proposal too few of nine", with([]byte{9}, nine[:len(nine)-1]), api.ErrTruncated},
		{"an admin that is overlong", []byte{1, 201, 129, 0}, api.ErrInvalid},
		{"an admin of 2^31", with([]byte{1}, p(1<<31, 1)), api.ErrRange},
		{"an admin of 204", with([]byte{1}, p(204, 1)), api.ErrRange},
		{"a number of 0", with([]byte{1}, p(201, 0)), api.ErrRange},
		{"no changes", with([]byte{1}, numbers(201, 1, 0)), api.ErrInvalid},
		{"seven changes", with([]byte{1}, numbers(201, 1, 7)), api.ErrTooLong},
		{"a change of an unknown kind", with([]byte{1}, numbers(201, 1, 1, 9, 1, 0, 0, 0, 0, 0)), api.ErrKind},
		{"a change twice", with([]byte{1}, numbers(201, 1, 2, 2, 1, 0, 0, 0, 0, 0, 2, 1, 0, 0, 0, 0, 0)), api.ErrDuplicate},
		{"administrators descending", with([]byte{2}, p(202, 1), p(201, 1)), api.ErrOrder},
		{"a proposal twice", with([]byte{2}, p(201, 1), p(201, 1)), api.ErrOrder},
		{"number 2 first", with([]byte{1}, p(201, 2)), api.ErrGap},
		{"number 3 behind number 1", with([]byte{2}, p(201, 1), p(201, 3)), api.ErrGap},

		{"a second proposal cut off before order and gap", with([]byte{3}, p(202, 1), p(201, 1), p(203, 2)[:5]), api.ErrTruncated},
		{"a second proposal cut off before gap", with([]byte{2}, p(201, 2), p(201, 3)[:4]), api.ErrTruncated},
		{"a bad proposal before order", with([]byte{3}, p(202, 1), p(201, 1), numbers(203, 1, 0)), api.ErrInvalid},
		{"a bad proposal before gap", with([]byte{2}, p(201, 2), p(204, 1)), api.ErrRange},
		{"a bad proposal before one cut off", with([]byte{2}, numbers(201, 1, 0), []byte{201}), api.ErrInvalid},
		{"one cut off before a missing one", with([]byte{3}, p(201, 1), []byte{201}), api.ErrTruncated},
		{"order before gap", with([]byte{2}, p(202, 1), p(201, 2)), api.ErrOrder},
		{"gap before order", with([]byte{2}, p(202, 2), p(201, 1)), api.ErrGap},
	} {
		if c, n, e := Decode(x.b); len(c) != 0 || n != 0 || e != x.e {
			t.Errorf("%s: Decode(%v) = %v, %d, %v, want %v", x.name, x.b, c, n, e, x.e)
		}
	}
}

// decoded is P6.5: what Decode returns for b.
func decoded(b []byte) (api.Config, int, api.Errno) {
	size, used, e := wire.Uint(b)
	if e == api.OK && size > 9 {
		e = api.ErrTooLong
	}
	var c api.Config
	for i := uint64(0); i < size && e == api.OK; i++ {
		var p api.Proposal
		var n int
		p, n, e = proposal.Decode(b[used:])
		c, used = append(c, p), used+n
	}
	if e == api.OK {
		e = firstError(c)
	}
	if e != api.OK {
		return nil, 0, e
	}
	return c, used, api.OK
}

// checkDecode checks what Decode returns for b, and that it accepts nothing but the encoding of what it returns.
func checkDecode(t *testing.T, b []byte) {
	t.Helper()
	c, n, e := Decode(b)
	want, wantN, wantE := decoded(b)
	if !same(c, want) || n != wantN || e != wantE {
		t.Errorf("Decode(%v) = %v, %d, %v, want %v, %d, %v", b, c, n, e, want, wantN, wantE)
	}
	if e == api.OK && !bytes.Equal(Append(nil, c), b[:n]) {
		t.Errorf("Decode(%v) = %v, %d: it consumes another encoding", b, c, n)
	}
}

// Each byte of an encoding is replaced by bytes at which a decision changes, and left out.
func TestDecodeOfChangedEncodings(t *testing.T) {
	for _, n := range atMost(2) {
		b := encoded(n.config())
		for i := range b {
			for _, x := range []byte{0, 1, 2, 3, 4, 6, 7, 9, 10, 13, 127, 128, 129, 200, 201, 202, 203, 204, 255} {
				changed := bytes.Clone(b)
				changed[i] = x
				checkDecode(t, changed)
				checkDecode(t, changed[:i+1])
			}
			checkDecode(t, slices.Concat(b[:i], b[i+1:]))
		}
	}
}

// Encodings of lists of proposals are decoded although most of them are not configurations, and with any size in front.
func TestDecodeOfAnyLists(t *testing.T) {
	r := rand.New(rand.NewSource(65))
	pool := append(samples(), api.Proposal{Admin: 202, Number: 2}, identified(202, 4), identified(204, 2))
	for range 20000 {
		var c api.Config
		for range r.Intn(5) {
			c = append(c, pool[r.Intn(len(pool))])
		}
		b := encoded(c)
		checkDecode(t, b)
		b[0] = byte(r.Intn(12))
		checkDecode(t, b)
	}
}

func TestPrefixesOfEncodingsAreTruncated(t *testing.T) {
	for _, n := range atMost(3) {
		b := encoded(n.config())
		for i := range b {
			if c, n, e := Decode(b[:i]); len(c) != 0 || n != 0 || e != api.ErrTruncated {
				t.Errorf("Decode(%v) = %v, %d, %v", b[:i], c, n, e)
			}
		}
	}
}

func TestEncodingsDecode(t *testing.T) {
	for _, n := range atMost(3) {
		c := n.config()
		b := Append(nil, c)
		for _, tail := range []string{"", "\x00", "\x01", "\x80", "\xff\xff\xff\xff\xff\xff\xff\xff\xff\xff\xff", string(b)} {
			if got, k, e := Decode(append(bytes.Clone(b), tail...)); !same(got, c) || k != len(b) || e != api.OK {
				t.Errorf("Decode of the encoding of %v = %v, %d, %v", n, got, k, e)
			}
		}
	}
}

// P6.6

func TestUnionIsAssociative(t *testing.T) {
	for _, x := range atMost(2) {
		for _, y := range atMost(2) {
			for _, z := range atMost(2) {
				a, b, c := x.config(), y.config(), z.config()
				if left, right := Union(Union(a, b), c), Union(a, Union(b, c)); !same(left, right) {
					t.Fatalf("of %v, %v, %v: %v and %v", x, y, z, left, right)
				}
			}
		}
	}
}

func TestLawsOfTwo(t *testing.T) {
	for _, x := range atMost(3) {
		a := x.config()
		if !same(Union(a, a), a) || !same(Meet(a, a), a) || !Contains(a, a) || !Equal(a, a) {
			t.Errorf("Union or Meet is not idempotent for %v", x)
		}
		for _, y := range atMost(3) {
			b := y.config()
			union, meet := Union(a, b), Meet(a, b)
			if !same(union, Union(b, a)) || !same(meet, Meet(b, a)) {
				t.Errorf("Union or Meet of %v and %v is not commutative", x, y)
			}
			if Contains(a, b) != Equal(union, a) || Contains(a, b) != vector.LessEqual(Vector(b), Vector(a)) {
				t.Errorf("Contains of %v and %v", x, y)
			}
			if !slices.Equal(Vector(union), vector.Join(Vector(a), Vector(b))) || !slices.Equal(Vector(meet), vector.Meet(Vector(a), Vector(b))) {
				t.Errorf("the vectors of the union and of the meet of %v and %v", x, y)
			}
		}
	}
}

// R1

// callAll calls all functions with a, b and p.
func callAll(a, b api.Config, p api.Proposal) {
	Validate(a)
	Contains(a, b)
	Equal(a, b)
	Union(a, b)
	Meet(a, b)
	Add(a, p)
	Restrict(a, Vector(b))
	Decode(Append(Append(nil, a), b))
}

func TestMalformedConfigurations(t *testing.T) {
	lists := append(malformed(), nil, samples(), samples()[:4], samples()[3:4])
	for _, a := range lists {
		for _, b := range lists {
			callAll(a, b, sample(202, 1))
			callAll(a, b, api.Proposal{})
		}
	}
	for _, v := range []api.Vector{{{Author: 203, Count: 1}, {Author: 201, Count: 1}}, {{Author: 201, Count: -1}}, make(api.Vector, 5), {{Author: math.MinInt, Count: math.MaxInt}}} {
		for _, a := range lists {
			Restrict(a, v)
		}
	}
}

// R2

// withRoom returns a copy of list with room behind it into which an append could write.
func withRoom[E any](list []E) []E {
	out := make([]E, len(list)+100)
	return out[:copy(out, list)]
}

// whole returns list with the elements behind it that an append could reach.
func whole[E any](list []E) []E { return list[:cap(list)] }

// roomy returns a copy of c with room behind each of its lists.
func roomy(c api.Config) api.Config {
	out := withRoom(c)
	for i, p := range out {
		out[i].Changes = withRoom(p.Changes)
	}
	return out
}

// unchanged reports whether an argument that roomy has made of c is as it was, with the room behind each list.
func unchanged(argument, c api.Config) bool {
	if !reflect.DeepEqual(whole(argument), whole(roomy(c))) {
		return false
	}
	for i, p := range argument {
		if !slices.Equal(whole(p.Changes), whole(withRoom(c[i].Changes))) {
			return false
		}
	}
	return true
}

// overwrite changes everything that can be reached from c.
func overwrite(c api.Config) {
	for _, p := range c {
		for i := range whole(p.Changes) {
			whole(p.Changes)[i] = api.Change{Kind: -7}
		}
	}
	for i := range whole(c) {
		whole(c)[i] = api.Proposal{Admin: -7}
	}
}

func TestArgumentsAreKept(t *testing.T) {
	lists := append(malformed(), nil, samples(), samples()[:4], samples()[3:4])
	for _, a := range lists {
		for _, b := range lists {
			c, d, p := roomy(a), roomy(b), of(sample(203, 1))
			q := roomy(p)
			callAll(c, d, q[0])
			if !unchanged(c, a) || !unchanged(d, b) || !unchanged(q, p) {
				t.Fatalf("arguments have become %v, %v, %v", c, d, q)
			}
		}
		before, v := withRoom([]byte("before")), withRoom(counts{1, 2, 1}.vector())
		Append(before, a)
		Restrict(a, v)
		if !bytes.Equal(whole(before), whole(withRoom([]byte("before")))) || !slices.Equal(whole(v), whole(withRoom(counts{1, 2, 1}.vector()))) {
			t.Fatalf("arguments have become %v, %v", whole(before), whole(v))
		}
		b := withRoom(encoded(a))
		Decode(b)
		if !bytes.Equal(whole(b), whole(withRoom(encoded(a)))) {
			t.Fatalf("Decode has written into its argument: %v", whole(b))
		}
	}
}

// makers returns calls of the functions that return configurations, with the arguments a, b, p and encoding of a.
func makers(a, b api.Config, p api.Proposal, encoding []byte) map[string]func() api.Config {
	return map[string]func() api.Config{
		"Union":    func() api.Config { return Union(a, b) },
		"Meet":     func() api.Config { return Meet(a, b) },
		"Restrict": func() api.Config { return Restrict(a, Vector(b)) },
		"Add":      func() api.Config { c, _ := Add(a, p); return c },
		"Decode":   func() api.Config { c, _, _ := Decode(encoding); return c },
	}
}

func TestResultsAreNewMemory(t *testing.T) {
	for _, n := range atMost(2) {
		for _, m := range []counts{{}, {1, 1, 1}, {0, 2, 0}, {3, 0, 1}, n} {
			p := of(sample(202, n[1]+1))
			a, b, q, encoding := roomy(n.config()), roomy(m.config()), roomy(p), encoded(n.config())
			want, results, others := map[string]api.Config{}, map[string]api.Config{}, map[string]api.Config{}
			for name, call := range makers(n.config(), m.config(), p[0], encoded(n.config())) {
				want[name] = call()
			}
			for name, call := range makers(a, b, q[0], encoding) {
				results[name], others[name] = call(), call()
			}
			overwrite(a)
			overwrite(b)
			overwrite(q)
			clear(encoding)
			for name, c := range results {
				if !same(c, want[name]) {
					t.Fatalf("%s of %v and %v: the result has changed with an argument: %v", name, n, m, c)
				}
				overwrite(c)
			}
			for name, c := range others {
				if !same(c, want[name]) {
					t.Fatalf("%s of %v and %v: a result has changed with another one: %v", name, n, m, c)
				}
			}
		}
	}
}

// The proposals of a result share no memory with each other, even if those of the argument do.
func TestProposalsShareNoMemory(t *testing.T) {
	shared := whole(withRoom(sample(202, 2).Changes))[:1]
	p := func(admin int) api.Proposal { return api.Proposal{Admin: admin, Number: 1, Changes: shared} }
	a, b := of(p(201), p(203)), of(p(202), p(203))
	for name, call := range makers(a, b, p(202), encoded(a)) {
		c := call()
		for i := range c {
			before := deep(c)
			for k := range whole(c[i].Changes) {
				whole(c[i].Changes)[k].Server++
			}
			c[i].Changes[0].Server--
			if !same(c, before) || shared[0] != sample(202, 2).Changes[0] {
				t.Errorf("%s: proposals have changed with proposal %d: %v", name, i, c)
			}
		}
	}
}

func TestVectorIsNewMemory(t *testing.T) {
	c := samples()
	v, w := Vector(c), Vector(c)
	clear(whole(v))
	if !slices.Equal(w, counts{3, 3, 3}.vector()) {
		t.Errorf("a vector has become %v", w)
	}
}

func TestAppendReturnsNewMemory(t *testing.T) {
	for _, n := range atMost(1) {
		for _, text := range []string{"", "before"} {
			b, c := withRoom([]byte(text)), roomy(n.config())
			first, second := Append(b, c), Append(b, c)
			want := append([]byte(text), encoded(n.config())...)
			overwrite(c)
			clear(whole(b))
			if !bytes.Equal(first, want) {
				t.Fatalf("the result has changed with an argument: %v", first)
			}
			clear(whole(first))
			if !bytes.Equal(second, want) {
				t.Fatalf("a result has changed with another one: %v", second)
			}
		}
	}
}

// R5

func TestNilIsEmpty(t *testing.T) {
	for _, n := range atMost(3) {
		c := n.config()
		for _, empty := range []api.Config{nil, {}} {
			if !same(Union(c, empty), c) || !same(Union(empty, c), c) || len(Meet(c, empty)) != 0 || len(Meet(empty, c)) != 0 {
				t.Errorf("Union or Meet of %v and an empty configuration", n)
			}
			if !Contains(c, empty) || Contains(empty, c) != (len(c) == 0) || Equal(c, empty) != (len(c) == 0) || Equal(empty, c) != (len(c) == 0) {
				t.Errorf("Contains or Equal of %v and an empty configuration", n)
			}
		}
		for _, empty := range []api.Vector{nil, {}} {
			if got := Restrict(c, empty); len(got) != 0 {
				t.Errorf("Restrict of %v to an empty vector = %v", n, got)
			}
		}
		if a, b := Append(nil, c), Append([]byte{}, c); !bytes.Equal(a, b) || len(a) == 0 {
			t.Errorf("Append of %v gives %v to nil and %v to an empty slice", n, a, b)
		}
	}
	for _, empty := range []api.Config{nil, {}} {
		c, e := Add(empty, sample(203, 1))
		if !same(c, of(sample(203, 1))) || e != api.OK || Validate(empty) != api.OK || len(Vector(empty)) != 0 || !bytes.Equal(Append(nil, empty), []byte{0}) {
			t.Errorf("an empty configuration: Add = %v, %v", c, e)
		}
	}
	for _, b := range [][]byte{nil, {}} {
		if c, n, e := Decode(b); len(c) != 0 || n != 0 || e != api.ErrTruncated {
			t.Errorf("Decode of nothing = %v, %d, %v", c, n, e)
		}
	}
}

// R9

func TestLongArguments(t *testing.T) {
	long := make(api.Config, 1<<18)
	for i := range long {
		long[i] = identified(i%1000, i)
	}
	callAll(long, long, sample(201, 1))
	slices.SortFunc(long, proposal.Compare)
	callAll(long, long[len(long)/2:], sample(201, 1))
	if got := Append(nil, make(api.Config, 1<<20)); len(got) != 3+3*(1<<20) {
		t.Errorf("Append of a long list has %d bytes", len(got))
	}
	before := bytes.Repeat([]byte("x"), 1<<24)
	b := Append(before, samples())
	if !bytes.Equal(b[:len(before)], before) || !bytes.Equal(b[len(before):], encoded(samples())) {
		t.Errorf("Append behind many bytes")
	}
	after := append(encoded(samples()), before...)
	if c, n, e := Decode(after); !same(c, samples()) || n != len(after)-len(before) || e != api.OK {
		t.Errorf("Decode before many bytes = %v, %d, %v", c, n, e)
	}
}

func FuzzDecode(f *testing.F) {
	for _, n := range atMost(1) {
		f.Add(encoded(n.config()))
	}
	f.Add(encoded(samples()))
	f.Add([]byte{10})
	f.Add(encoded(of(identified(201, 2))))
	f.Add(encoded(of(identified(202, 1), identified(201, 1))))
	f.Fuzz(func(t *testing.T, b []byte) {
		before := bytes.Clone(b)
		checkDecode(t, b)
		if !bytes.Equal(b, before) {
			t.Errorf("Decode has changed %v to %v", before, b)
		}
	})
}
