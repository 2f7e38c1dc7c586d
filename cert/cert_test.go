package cert

import (
	"bytes"
	"math"
	"math/rand"
	"reflect"
	"slices"
	"testing"

	"elasticstore/api"
	"elasticstore/config"
)

func join(server, weight int) api.Change {
	return api.Change{Kind: api.ChangeJoin, Server: server, Weight: weight}
}

func remove(server int) api.Change { return api.Change{Kind: api.ChangeRemove, Server: server} }

func weight(server, weight, version int) api.Change {
	return api.Change{Kind: api.ChangeWeight, Server: server, Weight: weight, Version: version}
}

func grid(columns, version int) api.Change {
	return api.Change{Kind: api.ChangeRule, Version: version, Rule: api.Rule{Kind: api.RuleGrid, Columns: columns}}
}

func masking(faulty, version int) api.Change {
	return api.Change{Kind: api.ChangeRule, Version: version, Rule: api.Rule{Kind: api.RuleMasking, Faulty: faulty}}
}

func of(admin, number int, changes ...api.Change) api.Proposal {
	return api.Proposal{Admin: admin, Number: number, Changes: changes}
}

// samples returns valid proposals with all identifiers, ascending. They differ in their changes, too.
func samples() []api.Proposal {
	return []api.Proposal{
		of(201, 1, join(4, 2), remove(1)), of(201, 2, grid(3, 7)), of(201, 3, join(7, 3), weight(2, 4, 2), remove(4)),
		of(202, 1, join(5, 1)), of(202, 2, remove(5), masking(1, 9), weight(3, 8, 1)), of(202, 3, remove(12)),
		of(203, 1, weight(2, 9, 1)), of(203, 2, join(8, 1), join(9, 2), join(10, 3), join(11, 4), join(12, 5), remove(2)), of(203, 3, masking(2, 300)),
	}
}

// counts is the model of a configuration: the number of proposals of 201, 202 and 203.
type counts [3]int

// config returns the configuration with the first proposals of each administrator.
func (n counts) config() api.Config {
	list := samples()
	return slices.Concat(list[:n[0]], list[3:3+n[1]], list[6:6+n[2]])
}

// contains reports whether the configuration of n contains that of m.
func (n counts) contains(m counts) bool { return n[0] >= m[0] && n[1] >= m[1] && n[2] >= m[2] }

// atMost returns the models of all configurations with up to most proposals of each administrator.
func atMost(most int) []counts {
	var out []counts
	for x := range most + 1 {
		for y := range most + 1 {
			for z := range most + 1 {
				out = append(out, counts{x, y, z})
			}
		}
	}
	return out
}

// model is the model of a certificate: those of its configurations.
type model struct{ from, to counts }

func (m model) cert() api.Certificate {
	return api.Certificate{From: m.from.config(), To: m.to.config()}
}

// newer reports whether a goes beyond b, by the definition.
func (a model) newer(b model) bool { return a.to.contains(b.to) && a.to != b.to }

// models returns the models of all valid certificates with up to most proposals of each administrator.
func models(most int) []model {
	var out []model
	for _, to := range atMost(most) {
		for _, from := range atMost(most) {
			if to.contains(from) {
				out = append(out, model{from, to})
			}
		}
	}
	return out
}

// extremes returns the models of models(most) that are from the empty configuration, or from their To.
func extremes(most int) []model {
	return slices.DeleteFunc(models(most), func(m model) bool { return m.from != counts{} && m.from != m.to })
}

// malformed returns configurations that are not valid.
func malformed() []api.Config {
	list := samples()
	backwards := slices.Clone(list)
	slices.Reverse(backwards)
	return []api.Config{
		list[1:2], {list[0], list[2]}, {list[0], list[4]}, {list[0], list[0]}, {list[3], list[0]}, backwards, append(slices.Clone(list), list...),
		make(api.Config, 3), {list[0], {}, list[1]}, {of(201, 0, remove(1))}, {of(204, 1, remove(1))}, {of(101, 1, remove(1)), list[0]},
		{of(201, 1, remove(1)), of(201, 2, remove(2)), of(201, 3, remove(3)), of(201, 4, remove(4))}, {of(201, 1)}, {of(202, 1, make([]api.Change, 7)...)},
		{of(203, 1, remove(13))}, {of(203, 1, remove(1), remove(1))}, {of(math.MinInt, math.MaxInt, remove(1)), of(math.MaxInt, math.MinInt, remove(1))},
	}
}

// disagreeing returns valid configurations whose first proposal differs from that of samples, each in another way.
func disagreeing() []api.Config {
	var out []api.Config
	for _, changes := range [][]api.Change{
		{remove(4), remove(1)}, {join(3, 2), remove(1)}, {join(4, 3), remove(1)}, {join(4, 2), remove(2)}, {join(4, 2)}, {remove(1)}, {remove(1), join(4, 2)},
		{join(4, 2), remove(1), remove(2)}, {weight(4, 2, 1), remove(1)},
	} {
		out = append(out, api.Config{of(201, 1, changes...)}, api.Config{of(201, 1, changes...), samples()[1], samples()[3]})
	}
	return out
}

// configurations returns configurations of all sorts.
func configurations() []api.Config {
	out := append(malformed(), disagreeing()...)
	for _, n := range append(atMost(1), counts{2, 1, 0}, counts{0, 0, 2}, counts{3, 3, 3}) {
		out = append(out, n.config())
	}
	return out
}

// same reports whether a and b are equal, by reflection instead of Equal.
func same(a, b api.Certificate) bool {
	return sameConfig(a.From, b.From) && sameConfig(a.To, b.To)
}

func sameConfig(a, b api.Config) bool {
	return len(a) == 0 && len(b) == 0 || reflect.DeepEqual(a, b)
}

// P13.1

// firstError is the list of conditions of P13.1.
func firstError(c api.Certificate) api.Errno {
	if e := config.Validate(c.From); e != api.OK {
		return e
	}
	if e := config.Validate(c.To); e != api.OK {
		return e
	}
	for _, p := range c.From {
		occurs := false
		for _, q := range c.To {
			occurs = occurs || reflect.DeepEqual(p, q)
		}
		if !occurs {
			return api.ErrInvalid
		}
	}
	return api.OK
}

func TestValidate(t *testing.T) {
	list := samples()
	gap, order, bad := api.Config{list[1]}, api.Config{list[3], list[0]}, api.Config{of(204, 1, remove(1))}
	for _, x := range []struct {
		name     string
		from, to api.Config
		e        api.Errno
	}{
		{"the initial certificate", nil, nil, api.OK},
		{"from the empty configuration", nil, list[:1], api.OK},
		{"to the same configuration", list[:2], list[:2], api.OK},
		{"to one with a proposal more", list[:2], list[:3], api.OK},
		{"to one with a proposal of an earlier administrator", list[3:4], api.Config{list[0], list[3]}, api.OK},
		{"between all configurations", nil, list, api.OK},

		{"back to the empty configuration", list[:1], nil, api.ErrInvalid},
		{"the last proposal missing", list[:2], list[:1], api.ErrInvalid},
		{"the only proposal of another administrator", list[:1], list[3:4], api.ErrInvalid},
		{"the same number of another administrator", list[3:4], list[:3], api.ErrInvalid},
		{"one of several missing", api.Config{list[0], list[3], list[6]}, api.Config{list[0], list[1], list[3]}, api.ErrInvalid},
		{"another proposal with the identifier", api.Config{of(201, 1, remove(1))}, list[:2], api.ErrInvalid},

		{"From with a gap", gap, list[:2], api.ErrGap},
		{"From not in order", order, list, api.ErrOrder},
		{"From with a bad proposal", bad, list, api.ErrRange},
		{"To with a gap", nil, gap, api.ErrGap},
		{"To not in order", nil, order, api.ErrOrder},
		{"To with a bad proposal", list[:1], bad, api.ErrRange},

		{"From before To", gap, order, api.ErrGap},
		{"From before To, the other way", order, gap, api.ErrOrder},
		{"From before a bad To", gap, bad, api.ErrGap},
		{"From before a proposal that is missing", gap, nil, api.ErrGap},
		{"To before a proposal that is missing", list[3:4], gap, api.ErrGap},
		{"From, although To is the same", bad, bad, api.ErrRange},
	} {
		if e := Validate(api.Certificate{From: x.from, To: x.to}); e != x.e {
			t.Errorf("%s: Validate = %v, want %v", x.name, e, x.e)
		}
	}
}

// A proposal of From must occur in To with each of its fields.
func TestValidateComparesAllFields(t *testing.T) {
	to := counts{3, 2, 1}.config()
	for _, other := range disagreeing() {
		if e := Validate(api.Certificate{From: other, To: to}); e != api.ErrInvalid {
			t.Errorf("Validate from %v = %v", other, e)
		}
		if e := Validate(api.Certificate{From: other, To: other}); e != api.OK {
			t.Errorf("Validate from %v to itself = %v", other, e)
		}
	}
	for _, x := range []struct{ a, b api.Change }{
		{weight(2, 4, 2), weight(2, 4, 3)}, {grid(3, 7), grid(4, 7)}, {masking(1, 9), masking(2, 9)}, {grid(3, 7), masking(3, 7)}, {grid(1, 8), grid(1, 9)},
	} {
		c := api.Certificate{From: api.Config{of(203, 1, remove(1), x.a)}, To: api.Config{of(203, 1, remove(1), x.b)}}
		if e := Validate(c); e != api.ErrInvalid {
			t.Errorf("Validate(%v) = %v", c, e)
		}
	}
}

func TestValidateOfAllModels(t *testing.T) {
	for _, from := range atMost(3) {
		for _, to := range atMost(3) {
			want := api.OK
			if !to.contains(from) {
				want = api.ErrInvalid
			}
			if e := Validate(model{from, to}.cert()); e != want {
				t.Errorf("Validate from %v to %v = %v, want %v", from, to, e, want)
			}
		}
	}
}

func TestValidateReturnsFirstError(t *testing.T) {
	for _, from := range configurations() {
		for _, to := range configurations() {
			c := api.Certificate{From: from, To: to}
			if e := Validate(c); e != firstError(c) {
				t.Errorf("Validate(%v) = %v, want %v", c, e, firstError(c))
			}
		}
	}
}

func TestEqual(t *testing.T) {
	for _, m := range models(2) {
		for _, n := range models(2) {
			if got := Equal(m.cert(), n.cert()); got != (m == n) {
				t.Errorf("Equal of %v and %v = %v", m, n, got)
			}
		}
	}
}

// P13.2

func TestExamplesOfNewer(t *testing.T) {
	for _, x := range []struct {
		name         string
		a, b         model
		newer, older bool
	}{
		{"a proposal and the initial certificate", model{to: counts{1, 0, 0}}, model{}, true, false},
		{"the initial certificate twice", model{}, model{}, false, false},
		{"the same To", model{counts{1, 0, 0}, counts{1, 1, 0}}, model{counts{}, counts{1, 1, 0}}, false, false},
		{"a smaller From", model{counts{}, counts{1, 1, 1}}, model{counts{1, 0, 0}, counts{1, 1, 0}}, true, false},
		{"a greater From alone", model{counts{1, 1, 0}, counts{1, 1, 0}}, model{counts{}, counts{1, 1, 1}}, false, true},
		{"To that are not comparable", model{to: counts{2, 0, 0}}, model{to: counts{0, 1, 0}}, false, false},
		{"more proposals that are not comparable", model{to: counts{3, 3, 0}}, model{to: counts{0, 0, 1}}, false, false},
	} {
		if got := Newer(x.a.cert(), x.b.cert()); got != x.newer {
			t.Errorf("%s: Newer = %v", x.name, got)
		}
		if got := Newer(x.b.cert(), x.a.cert()); got != x.older {
			t.Errorf("%s: Newer, the other way = %v", x.name, got)
		}
	}
}

func TestNewerAndLatest(t *testing.T) {
	for _, m := range models(2) {
		for _, n := range models(2) {
			a, b, latest := m.cert(), n.cert(), m
			if n.newer(m) {
				latest = n
			}
			if got := Newer(a, b); got != m.newer(n) {
				t.Errorf("Newer of %v and %v = %v", m, n, got)
			}
			if got := Latest(a, b); !same(got, latest.cert()) {
				t.Errorf("Latest of %v and %v = %v, want %v", m, n, got, latest)
			}
		}
	}
}

// P13.3

func TestStartExamples(t *testing.T) {
	c := model{counts{1, 0, 0}, counts{2, 1, 1}}
	for _, x := range []struct {
		name              string
		established, want counts
	}{
		{"the empty configuration", counts{}, counts{1, 0, 0}},
		{"From", counts{1, 0, 0}, counts{1, 0, 0}},
		{"one between From and To", counts{1, 1, 0}, counts{1, 1, 0}},
		{"To", counts{2, 1, 1}, counts{2, 1, 1}},
		{"one beyond To", counts{3, 1, 1}, counts{1, 0, 0}},
		{"one in To without From", counts{0, 1, 0}, counts{1, 0, 0}},
		{"one with From, not in To", counts{1, 2, 0}, counts{1, 0, 0}},
		{"one without From, not in To", counts{0, 2, 0}, counts{1, 0, 0}},
	} {
		if got := Start(c.cert(), model{to: x.established}.cert()); !sameConfig(got, x.want.config()) {
			t.Errorf("%s: Start = %v, want the configuration of %v", x.name, got, x.want)
		}
	}
}

func TestStart(t *testing.T) {
	for _, c := range models(3) {
		for _, established := range extremes(3) {
			want := c.from
			if c.to.contains(established.to) && established.to.contains(c.from) {
				want = established.to
			}
			if got := Start(c.cert(), established.cert()); !sameConfig(got, want.config()) {
				t.Fatalf("Start of %v with %v = %v, want the configuration of %v", c, established, got, want)
			}
		}
	}
}

// P13.4

// encoded returns the encoding of c.
func encoded(c api.Certificate) []byte {
	return slices.Concat(config.Append(nil, c.From), config.Append(nil, c.To))
}

func TestAppend(t *testing.T) {
	p := api.Config{of(201, 1, remove(1))}
	for _, x := range []struct {
		c    api.Certificate
		want []byte
	}{
		{api.Certificate{}, []byte{0, 0}},
		{api.Certificate{To: p}, []byte{0, 1, 201, 1, 1, 1, 2, 1, 0, 0, 0, 0, 0}},
		{api.Certificate{From: p, To: p}, []byte{1, 201, 1, 1, 1, 2, 1, 0, 0, 0, 0, 0, 1, 201, 1, 1, 1, 2, 1, 0, 0, 0, 0, 0}},
	} {
		if got := Append([]byte("ab"), x.c); !bytes.Equal(got, slices.Concat([]byte("ab"), x.want)) {
			t.Errorf("Append of %v = %v, want %v", x.c, got, x.want)
		}
	}
	for _, m := range models(3) {
		if got, want := Append([]byte{7}, m.cert()), slices.Concat([]byte{7}, encoded(m.cert())); !bytes.Equal(got, want) {
			t.Errorf("Append of %v = %v, want %v", m, got, want)
		}
	}
}

func TestDecodeErrors(t *testing.T) {
	one, gap, order, range204 := counts{1, 0, 0}.config(), api.Config{samples()[1]}, api.Config{samples()[3], samples()[0]}, api.Config{of(204, 1, remove(1))}
	both := func(from, to api.Config) []byte { return encoded(api.Certificate{From: from, To: to}) }
	for _, x := range []struct {
		name string
		b    []byte
		e    api.Errno
	}{
		{"nothing", nil, api.ErrTruncated},
		{"From alone", config.Append(nil, one), api.ErrTruncated},
		{"an empty From alone", []byte{0}, api.ErrTruncated},
		{"From of 10 proposals", []byte{10, 0}, api.ErrTooLong},
		{"To of 10 proposals", []byte{0, 10}, api.ErrTooLong},
		{"From with an overlong size", []byte{128, 0, 0}, api.ErrInvalid},
		{"To with an overlong size", []byte{0, 128, 0}, api.ErrInvalid},
		{"From with a gap", both(gap, one), api.ErrGap},
		{"To with a gap", both(nil, gap), api.ErrGap},
		{"From not in order", both(order, one), api.ErrOrder},
		{"To not in order", both(nil, order), api.ErrOrder},
		{"From with a bad proposal", both(range204, one), api.ErrRange},
		{"To with a bad proposal", both(one, range204), api.ErrRange},
		{"back to the empty configuration", both(one, nil), api.ErrInvalid},
		{"to another configuration", both(one, counts{0, 2, 2}.config()), api.ErrInvalid},
		{"another proposal with the identifier", both(one, disagreeing()[0]), api.ErrInvalid},

		{"From before To", both(gap, order), api.ErrGap},
		{"From before To, the other way", both(order, gap), api.ErrOrder},
		{"From before a missing To", config.Append(nil, gap), api.ErrGap},
		{"From before a To that is too long", append(config.Append(nil, order), 10), api.ErrOrder},
		{"To before a proposal that is missing", both(one, gap), api.ErrGap},
		{"To of 10 proposals before a proposal that is missing", append(config.Append(nil, one), 10), api.ErrTooLong},
	} {
		if c, n, e := Decode(x.b); len(c.From)+len(c.To) != 0 || n != 0 || e != x.e {
			t.Errorf("%s: Decode(%v) = %v, %d, %v, want %v", x.name, x.b, c, n, e, x.e)
		}
	}
}

// decoded is P13.4: what Decode returns for b.
func decoded(b []byte) (api.Certificate, int, api.Errno) {
	from, n, e := config.Decode(b)
	if e != api.OK {
		return api.Certificate{}, 0, e
	}
	to, m, e := config.Decode(b[n:])
	if e != api.OK {
		return api.Certificate{}, 0, e
	}
	c := api.Certificate{From: from, To: to}
	if e := firstError(c); e != api.OK {
		return api.Certificate{}, 0, e
	}
	return c, n + m, api.OK
}

// checkDecode checks what Decode returns for b, and that it accepts nothing but the encoding of what it returns.
func checkDecode(t *testing.T, b []byte) {
	t.Helper()
	c, n, e := Decode(b)
	want, wantN, wantE := decoded(b)
	if !same(c, want) || n != wantN || e != wantE {
		t.Errorf("Decode(%v) = %v, %d, %v, want %v, %d, %v", b, c, n, e, want, wantN, wantE)
	}
	if e == api.OK && (!bytes.Equal(Append(nil, c), b[:n]) || Validate(c) != api.OK) {
		t.Errorf("Decode(%v) = %v, %d: it consumes another encoding, or the result is not valid", b, c, n)
	}
}

// Each byte of an encoding is replaced by bytes at which a decision changes, and left out.
func TestDecodeOfChangedEncodings(t *testing.T) {
	for _, m := range append(models(1), model{counts{2, 0, 1}, counts{3, 1, 1}}, model{counts{2, 2, 2}, counts{3, 3, 3}}) {
		b := encoded(m.cert())
		for i := range b {
			for _, x := range []byte{0, 1, 2, 3, 4, 7, 9, 10, 127, 128, 129, 201, 202, 203, 204, 255} {
				changed := bytes.Clone(b)
				changed[i] = x
				checkDecode(t, changed)
				checkDecode(t, changed[:i+1])
			}
			checkDecode(t, slices.Concat(b[:i], b[i+1:]))
		}
	}
}

// Encodings of pairs of configurations are decoded although most of them are not certificates.
func TestDecodeOfAnyPairs(t *testing.T) {
	for _, from := range configurations() {
		for _, to := range configurations() {
			b := encoded(api.Certificate{From: from, To: to})
			checkDecode(t, b)
			checkDecode(t, append(b, b...))
		}
	}
}

func TestPrefixesOfEncodingsAreTruncated(t *testing.T) {
	for _, m := range models(2) {
		b := encoded(m.cert())
		for i := range b {
			if c, n, e := Decode(b[:i]); len(c.From)+len(c.To) != 0 || n != 0 || e != api.ErrTruncated {
				t.Errorf("Decode(%v) = %v, %d, %v", b[:i], c, n, e)
			}
		}
	}
}

func TestEncodingsDecode(t *testing.T) {
	for _, m := range models(3) {
		b := Append(nil, m.cert())
		for _, tail := range []string{"", "\x00", "\x01", "\x80", "\xff\xff\xff\xff\xff\xff\xff\xff\xff\xff\xff", string(b)} {
			if got, n, e := Decode(append(bytes.Clone(b), tail...)); !same(got, m.cert()) || n != len(b) || e != api.OK {
				t.Errorf("Decode of the encoding of %v = %v, %d, %v", m, got, n, e)
			}
		}
	}
}

// P13.5

func TestNewerIsStrictPartialOrder(t *testing.T) {
	list := extremes(2)
	newer := map[[2]model]bool{}
	for _, m := range list {
		for _, n := range list {
			newer[[2]model{m, n}] = Newer(m.cert(), n.cert())
		}
	}
	for _, a := range list {
		if newer[[2]model{a, a}] {
			t.Errorf("%v is newer than itself", a)
		}
		for _, b := range list {
			if newer[[2]model{a, b}] && newer[[2]model{b, a}] {
				t.Errorf("%v and %v are newer than each other", a, b)
			}
			for _, c := range list {
				if newer[[2]model{a, b}] && newer[[2]model{b, c}] && !newer[[2]model{a, c}] {
					t.Errorf("%v is newer than %v and that one than %v", a, b, c)
				}
			}
		}
	}
}

// chain returns certificates whose To form a chain. Several have the same To.
func chain(r *rand.Rand) []model {
	var out []model
	for to := (counts{}); len(out) < 12; to[r.Intn(3)]++ {
		to = counts{min(to[0], 3), min(to[1], 3), min(to[2], 3)}
		for range 1 + r.Intn(2) {
			out = append(out, model{counts{r.Intn(to[0] + 1), r.Intn(to[1] + 1), r.Intn(to[2] + 1)}, to})
		}
	}
	return out
}

func TestLatestOverChains(t *testing.T) {
	r := rand.New(rand.NewSource(135))
	for range 5 {
		list := chain(r)
		for _, x := range list {
			for _, y := range list {
				a, b := x.cert(), y.cert()
				if got, want := Latest(a, b).To, config.Union(a.To, b.To); !sameConfig(got, want) {
					t.Errorf("To of Latest of %v and %v = %v, want %v", x, y, got, want)
				}
				for _, z := range list {
					c := z.cert()
					if left, right := Latest(Latest(a, b), c), Latest(a, Latest(b, c)); !same(left, right) {
						t.Errorf("Latest of %v, %v, %v is %v or %v", x, y, z, left, right)
					}
				}
			}
		}
	}
}

// R1

// callAll calls all functions with a and b.
func callAll(a, b api.Certificate) {
	Validate(a)
	Equal(a, b)
	Newer(a, b)
	Latest(a, b)
	Start(a, b)
	Decode(Append(Append(nil, a), b))
}

func TestMalformedCertificates(t *testing.T) {
	for _, x := range malformed() {
		for _, y := range configurations() {
			for _, z := range [...]api.Config{nil, x, y, samples()} {
				callAll(api.Certificate{From: x, To: y}, api.Certificate{From: x, To: z})
				callAll(api.Certificate{From: y, To: x}, api.Certificate{From: z, To: x})
				callAll(api.Certificate{From: z, To: z}, api.Certificate{From: y, To: x})
			}
		}
	}
}

// R2

// withRoom returns a copy of list with room behind it into which an append could write.
func withRoom[E any](list []E) []E {
	out := make([]E, len(list)+20)
	return out[:copy(out, list)]
}

// whole returns list with the elements behind it that an append could reach.
func whole[E any](list []E) []E { return list[:cap(list)] }

// roomy returns a copy of c with room behind each of its lists.
func roomy(c api.Certificate) api.Certificate {
	c = api.Certificate{From: withRoom(c.From), To: withRoom(c.To)}
	for _, list := range [...]api.Config{c.From, c.To} {
		for i, p := range list {
			list[i].Changes = withRoom(p.Changes)
		}
	}
	return c
}

// unchanged reports whether an argument that roomy has made of c is as it was, with the room behind each list.
func unchanged(argument, c api.Certificate) bool {
	wide := func(c api.Certificate) []api.Config {
		out := []api.Config{slices.Clone(whole(c.From)), slices.Clone(whole(c.To))}
		for _, list := range out {
			for i, p := range list {
				list[i].Changes = whole(p.Changes)
			}
		}
		return out
	}
	return reflect.DeepEqual(wide(argument), wide(roomy(c)))
}

// overwrite changes everything that can be reached from c.
func overwrite(c api.Config) {
	for _, p := range c {
		for i := range whole(p.Changes) {
			whole(p.Changes)[i] = api.Change{Kind: -7}
		}
	}
	for i := range whole(c) {
		whole(c)[i] = api.Proposal{Admin: -7}
	}
}

// overwriteBoth does so for both configurations of c.
func overwriteBoth(c api.Certificate) {
	overwrite(c.From)
	overwrite(c.To)
}

func TestArgumentsAreKept(t *testing.T) {
	list := configurations()
	for i, from := range list {
		for k, to := range list {
			a, b := api.Certificate{From: from, To: to}, api.Certificate{From: list[(i+k)%len(list)], To: list[(i+2*k)%len(list)]}
			c, d, text, encoding := roomy(a), roomy(b), withRoom([]byte("before")), withRoom(encoded(a))
			callAll(c, d)
			Append(text, c)
			Decode(encoding)
			if !unchanged(c, a) || !unchanged(d, b) {
				t.Fatalf("arguments have become %v, %v", c, d)
			}
			if !bytes.Equal(whole(text), whole(withRoom([]byte("before")))) || !bytes.Equal(whole(encoding), whole(withRoom(encoded(a)))) {
				t.Fatalf("arguments have become %v, %v", whole(text), whole(encoding))
			}
		}
	}
}

// makers returns calls of the functions that return configurations, with the arguments a and b and encoding of a.
func makers(a, b api.Certificate, encoding []byte) map[string]func() api.Certificate {
	return map[string]func() api.Certificate{
		"Latest": func() api.Certificate { return Latest(a, b) },
		"Start":  func() api.Certificate { return api.Certificate{To: Start(a, b)} },
		"Decode": func() api.Certificate { c, _, _ := Decode(encoding); return c },
	}
}

func TestResultsAreNewMemory(t *testing.T) {
	for _, m := range extremes(1) {
		for _, n := range append(extremes(1), model{counts{1, 2, 0}, counts{2, 3, 1}}) {
			a, b, encoding := roomy(m.cert()), roomy(n.cert()), encoded(m.cert())
			want, results, others := map[string]api.Certificate{}, map[string]api.Certificate{}, map[string]api.Certificate{}
			for name, call := range makers(m.cert(), n.cert(), encoded(m.cert())) {
				want[name] = call()
			}
			for name, call := range makers(a, b, encoding) {
				results[name], others[name] = call(), call()
			}
			overwriteBoth(a)
			overwriteBoth(b)
			clear(encoding)
			for name, c := range results {
				if !same(c, want[name]) {
					t.Fatalf("%s of %v and %v: the result has changed with an argument: %v", name, m, n, c)
				}
				overwriteBoth(c)
			}
			for name, c := range others {
				if !same(c, want[name]) {
					t.Fatalf("%s of %v and %v: a result has changed with another one: %v", name, m, n, c)
				}
			}
		}
	}
}

// The lists of a result share no memory with each other, even if those of the arguments do.
func TestPartsShareNoMemory(t *testing.T) {
	changes := samples()[0].Changes
	shared := whole(withRoom(changes))[:len(changes)]
	both := api.Config{of(201, 1, shared...), of(202, 1, shared...)}
	older, newer := api.Certificate{From: both[:1], To: both[:1]}, api.Certificate{From: both, To: both}
	results := makers(older, newer, encoded(newer))
	results["Latest, of the newer one first"] = func() api.Certificate { return Latest(newer, older) }
	results["Start, with the newer one first"] = func() api.Certificate { return api.Certificate{To: Start(newer, older)} }
	for name, call := range results {
		c := call()
		for _, list := range [...]api.Config{c.From, c.To} {
			for i := range list {
				whole(list[i].Changes)[0].Server += 5
				for k := range whole(list[i].Changes)[1:] {
					whole(list[i].Changes)[1+k].Server = 99
				}
			}
		}
		for _, list := range [...]api.Config{c.From, c.To} {
			for i, p := range list {
				if p.Changes[0].Server != changes[0].Server+5 || !slices.Equal(shared, changes) {
					t.Errorf("%s: proposal %d of %v has changed with another one, or with an argument", name, i, list)
				}
			}
		}
		overwrite(c.From)
		if slices.ContainsFunc(c.To, func(p api.Proposal) bool { return p.Admin == -7 }) {
			t.Errorf("%s: To has changed with From: %v", name, c.To)
		}
	}
}

func TestAppendReturnsNewMemory(t *testing.T) {
	for _, m := range models(1) {
		for _, text := range []string{"", "before"} {
			b, c := withRoom([]byte(text)), roomy(m.cert())
			first, second := Append(b, c), Append(b, c)
			want := slices.Concat([]byte(text), encoded(m.cert()))
			overwriteBoth(c)
			clear(whole(b))
			if !bytes.Equal(first, want) {
				t.Fatalf("the result has changed with an argument: %v", first)
			}
			clear(whole(first))
			if !bytes.Equal(second, want) {
				t.Fatalf("a result has changed with another one: %v", second)
			}
		}
	}
}

// R5

func TestNilIsEmpty(t *testing.T) {
	for _, m := range extremes(2) {
		c := m.cert()
		if a, b := Append(nil, c), Append([]byte{}, c); !bytes.Equal(a, b) || len(a) == 0 {
			t.Errorf("Append of %v gives %v to nil and %v to an empty slice", m, a, b)
		}
		initial, some := api.Certificate{From: api.Config{}, To: api.Config{}}, m.to != counts{}
		if Equal(c, initial) == some || Equal(initial, c) == some || Newer(c, initial) != some || Newer(initial, c) {
			t.Errorf("Equal or Newer of %v and an initial certificate", m)
		}
		if !same(Latest(c, initial), c) || !same(Latest(initial, c), c) || !sameConfig(Start(c, initial), c.From) || len(Start(initial, c)) != 0 {
			t.Errorf("Latest or Start of %v and an initial certificate", m)
		}
		for _, empty := range []api.Config{nil, {}} {
			if Validate(api.Certificate{From: empty, To: c.To}) != api.OK || (Validate(api.Certificate{From: c.To, To: empty}) != api.OK) != some {
				t.Errorf("Validate of an empty configuration and that of %v", m)
			}
		}
	}
	if !bytes.Equal(Append(nil, api.Certificate{From: api.Config{}}), []byte{0, 0}) || !Equal(api.Certificate{From: api.Config{}}, api.Certificate{To: api.Config{}}) {
		t.Error("Append or Equal of an initial certificate")
	}
	for _, b := range [][]byte{nil, {}} {
		if c, n, e := Decode(b); len(c.From)+len(c.To) != 0 || n != 0 || e != api.ErrTruncated {
			t.Errorf("Decode of nothing = %v, %d, %v", c, n, e)
		}
	}
}

// R9

func TestLongArguments(t *testing.T) {
	long := make(api.Config, 1<<16)
	for i := range long {
		long[i] = of(i/1000, i%1000, remove(1))
	}
	for _, c := range [...]api.Certificate{{From: long, To: long}, {To: long}, {From: long}, {From: long[len(long)/2:], To: long}} {
		callAll(c, api.Certificate{From: long, To: long})
		callAll(c, api.Certificate{From: long, To: samples()})
		callAll(api.Certificate{To: samples()}, c)
	}
	c := api.Certificate{From: samples()[:2], To: samples()}
	before := bytes.Repeat([]byte("x"), 1<<24-len(encoded(c)))
	b := Append(before, c)
	if !bytes.Equal(b[:len(before)], before) || !bytes.Equal(b[len(before):], encoded(c)) {
		t.Errorf("Append behind many bytes")
	}
	after := append(encoded(c), before...)
	if got, n, e := Decode(after); !same(got, c) || n != len(after)-len(before) || e != api.OK {
		t.Errorf("Decode before many bytes = %v, %d, %v", got, n, e)
	}
}

func FuzzDecode(f *testing.F) {
	for _, m := range append(models(1), model{counts{2, 2, 2}, counts{3, 3, 3}}) {
		f.Add(encoded(m.cert()))
	}
	f.Add([]byte{0, 10})
	for _, c := range append(malformed(), disagreeing()...) {
		f.Add(encoded(api.Certificate{From: c, To: samples()}))
	}
	f.Fuzz(func(t *testing.T, b []byte) {
		before := bytes.Clone(b)
		checkDecode(t, b)
		if !bytes.Equal(b, before) {
			t.Errorf("Decode has changed %v to %v", before, b)
		}
	})
}
