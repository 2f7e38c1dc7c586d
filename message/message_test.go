package message

import (
	"bytes"
	"encoding/binary"
	"math"
	"math/rand"
	"reflect"
	"slices"
	"strconv"
	"strings"
	"testing"

	"elasticstore/api"
	"elasticstore/cert"
	"elasticstore/config"
	"elasticstore/state"
	"elasticstore/update"
	"elasticstore/vector"
	"elasticstore/wire"
)

// sample returns the proposal with an identifier that occurs in the configurations of these tests.
func sample(admin, number int) api.Proposal {
	changes := []api.Change{
		{Kind: api.ChangeRemove, Server: number},
		{Kind: api.ChangeJoin, Server: 3 + 3*(admin-201) + number, Weight: number},
		{Kind: api.ChangeRule, Version: 100 * number, Rule: api.Rule{Kind: api.RuleMasking, Faulty: admin - 201}},
		{Kind: api.ChangeWeight, Server: 12, Weight: 9, Version: admin},
	}
	return api.Proposal{Admin: admin, Number: number, Changes: changes[:1+(admin+number)%4]}
}

// proposals returns the configuration with the first a, b and c proposals of 201, 202 and 203.
func proposals(a, b, c int) api.Config {
	var out api.Config
	for i, count := range [...]int{a, b, c} {
		for k := range count {
			out = append(out, sample(201+i, k+1))
		}
	}
	return out
}

// effects returns the update with an identifier that occurs in the states of these tests.
func effects(client, seq int) api.Update {
	name := "é" + strconv.Itoa(seq)
	if (client+seq)%4 == 0 {
		return api.Update{Client: client, Seq: seq, Tag: client * (seq % 2), Effects: []api.Effect{{Kind: api.EffectWrite, Object: name, Field: "f", N: -300, S: "\xff"}}}
	}
	list := []api.Effect{
		{Kind: api.EffectInsert, Object: "o", Field: name, S: name},
		{Kind: api.EffectRaise, Object: "o", Field: "f", N: math.MinInt64},
		{Kind: api.EffectAdd, Object: name, Field: "sixteen bytes ok", N: int64(client)},
		{Kind: api.EffectMark, Object: "o", Field: "f"},
	}
	return api.Update{Client: client, Seq: seq, Effects: list[:1+(client*seq)%4]}
}

// updates returns the state with the first updates of 101, 102, 103, ... of which there are counts.
func updates(counts ...int) api.State {
	var out api.State
	for i, count := range counts {
		for k := range count {
			out = append(out, effects(101+i, k+1))
		}
	}
	return out
}

// marking returns a valid update, if the identifier is valid. It differs from that of effects.
func marking(client, seq int) api.Update {
	return api.Update{Client: client, Seq: seq, Effects: []api.Effect{{Kind: api.EffectMark, Object: "x", Field: "y"}}}
}

var (
	initial = api.Certificate{}
	first   = api.Certificate{To: proposals(1, 0, 0)}
	second  = api.Certificate{From: proposals(1, 0, 0), To: proposals(1, 2, 0)}
	last    = api.Certificate{From: proposals(3, 2, 1), To: proposals(3, 3, 3)}
)

// entries returns a vector of so many entries.
func entries(size int) api.Vector {
	v := make(api.Vector, size)
	for i := range v {
		v[i] = api.Entry{Author: 100*i + 1, Count: 1 + 10101*i%1000000}
	}
	return v
}

// samples returns valid messages of each kind.
func samples() []api.Message {
	ids := []api.AccessID{{Process: 101, Number: 1}, {Process: 106, Number: 300}, {Process: 201, Number: 7}, {Process: 203, Number: 1000000}}
	return []api.Message{
		{Kind: api.MsgRequest, From: 101, To: 3, Access: ids[0], Round: 2, Mode: api.ModeStore, Config: proposals(1, 0, 2), State: updates(2, 1)},
		{Kind: api.MsgRequest, From: 201, To: 12, Access: ids[3], Round: 1000000, Mode: api.ModeCollect, Config: proposals(3, 3, 3)},
		{Kind: api.MsgRequest, From: 106, To: 1, Access: ids[1], Round: 1, Mode: api.ModeAgree, State: updates(0, 3)},
		{Kind: api.MsgRequest, From: 12, To: 203, Access: ids[2], Round: 1, Mode: api.ModeAgree},
		{Kind: api.MsgRequest, From: 203, To: 9, Access: ids[2], Round: 128, Mode: api.ModeCollect},
		{Kind: api.MsgResponse, From: 3, To: 101, Access: ids[0], Round: 2},
		{Kind: api.MsgResponse, From: 3, To: 106, Access: ids[1], Round: 5, Config: proposals(0, 1, 0), State: updates(1), HasBase: true},
		{Kind: api.MsgResponse, From: 12, To: 203, Access: ids[3], Round: 1000000, Config: proposals(2, 0, 0), HasBase: true, Base: second, Established: first},
		{Kind: api.MsgResponse, From: 1, To: 201, Access: ids[2], Round: 3, State: updates(0, 0, 2, 0, 0, 1), Established: last},
		{Kind: api.MsgTransfer, From: 202, To: 5, Cert: second},
		{Kind: api.MsgFetch, From: 5, To: 4, Cert: last, Have: api.Vector{{Author: 101, Count: 2}, {Author: 106, Count: 8}}},
		{Kind: api.MsgFetch, From: 5, To: 5},
		{Kind: api.MsgFetch, From: 4, To: 12, Cert: first, Have: api.Vector{{Author: 1, Count: 1}, {Author: math.MaxInt32, Count: 1000000}}},
		{Kind: api.MsgChunk, From: 1, To: 5, Cert: second, State: api.State{effects(101, 3), effects(101, 5), effects(103, 2), effects(106, 8)}, More: true, HasBase: true, Base: first, Established: last},
		{Kind: api.MsgChunk, From: 2, To: 6, Cert: first, State: updates(1), HasBase: true},
		{Kind: api.MsgChunk, From: 12, To: 1, Cert: last, More: true, Established: first},
		{Kind: api.MsgChunk, From: 3, To: 3},
		{Kind: api.MsgFilled, From: 5, To: 203, Cert: first},
		{Kind: api.MsgNews, From: 202, To: 106, Cert: second},
		{Kind: api.MsgNews, From: 5, To: 101},
		{Kind: api.MsgNoted, From: 5, To: 202, Cert: last},
	}
}

// large returns valid messages with the longest lists that can be encoded.
func large() []api.Message {
	id := api.AccessID{Process: 105, Number: 99}
	return []api.Message{
		{Kind: api.MsgRequest, From: 105, To: 3, Access: id, Round: 9, Mode: api.ModeStore, Config: proposals(3, 3, 3), State: updates(8, 8, 8, 8, 8, 8)},
		{Kind: api.MsgResponse, From: 3, To: 105, Access: id, Round: 9, Config: proposals(3, 3, 3), State: updates(8, 8, 8, 8, 8, 8), HasBase: true, Base: last, Established: last},
		{Kind: api.MsgFetch, From: 3, To: 4, Cert: last, Have: entries(100)},
	}
}

// fieldSet is a change of a message.
type fieldSet struct {
	name string // of the field
	set  func(m *api.Message)
}

func number(name string, value int, of func(m *api.Message) *int) fieldSet {
	return fieldSet{name, func(m *api.Message) { *of(m) = value }}
}

// changes returns changes of each field to values at which a decision changes.
func changes() []fieldSet {
	var out []fieldSet
	for _, kind := range []int{math.MinInt, -1, 0, 1, 2, 3, 4, 5, 6, 7, 8, 9, math.MaxInt} {
		out = append(out, number("Kind", kind, func(m *api.Message) *int { return &m.Kind }))
	}
	for _, id := range []int{math.MinInt, 0, 1, 12, 13, 100, 101, 106, 107, 200, 201, 203, 204, math.MaxInt} {
		out = append(out, number("From", id, func(m *api.Message) *int { return &m.From }), number("To", id, func(m *api.Message) *int { return &m.To }),
			number("Access", id, func(m *api.Message) *int { return &m.Access.Process }))
	}
	for _, n := range []int{math.MinInt, -1, 0, 1, 1000000, 1000001, math.MaxInt} {
		out = append(out, number("Access", n, func(m *api.Message) *int { return &m.Access.Number }), number("Round", n, func(m *api.Message) *int { return &m.Round }))
	}
	for _, mode := range []int{-1, 0, 1, 2, 3, 4} {
		out = append(out, number("Mode", mode, func(m *api.Message) *int { return &m.Mode }))
	}
	for _, b := range []bool{false, true} {
		out = append(out, fieldSet{"HasBase", func(m *api.Message) { m.HasBase = b }}, fieldSet{"More", func(m *api.Message) { m.More = b }})
	}
	for _, c := range certificates() {
		out = append(out, fieldSet{"Cert", func(m *api.Message) { m.Cert = c }}, fieldSet{"Base", func(m *api.Message) { m.Base = c }}, fieldSet{"Established", func(m *api.Message) { m.Established = c }})
	}
	return append(out, lists()...)
}

// certificates returns certificates of all sorts.
func certificates() []api.Certificate {
	gap, order := api.Config{sample(201, 2)}, api.Config{sample(202, 1), sample(201, 1)}
	return []api.Certificate{
		initial, {From: api.Config{}}, {To: api.Config{}}, {From: api.Config{}, To: api.Config{}}, first, second, {From: first.To, To: first.To},
		{From: first.To}, {From: proposals(0, 1, 0), To: first.To}, {From: gap, To: first.To}, {To: gap}, {To: order}, {From: order, To: gap}, {To: api.Config{{}}},
	}
}

// lists returns changes of the fields that are lists.
func lists() []fieldSet {
	var out []fieldSet
	for _, c := range []api.Config{
		nil, {}, proposals(1, 0, 0), proposals(1, 2, 3), {sample(201, 2)}, {sample(202, 1), sample(201, 1)}, {{}}, {sample(201, 1), {Admin: 204, Number: 1}},
	} {
		out = append(out, fieldSet{"Config", func(m *api.Message) { m.Config = c }})
	}
	for _, s := range []api.State{
		nil, {}, updates(1), updates(2, 0, 1, 1), updates(2, 0, 1, 2), updates(9), {effects(101, 2)}, {effects(101, 1), effects(101, 3)}, {effects(102, 1), effects(101, 1)},
		{effects(101, 1), effects(101, 1)}, {effects(101, 2), effects(101, 1)}, {{}}, {effects(101, 1), {Client: 101}}, {marking(107, 1)}, {marking(101, 9)},
		{effects(102, 1), marking(100, 9)}, {effects(103, 1), effects(102, 7), marking(107, 1)}, {effects(101, 2), {}, {}, {}, {}}, {effects(101, 1), effects(101, 1), {}, {}},
	} {
		out = append(out, fieldSet{"State", func(m *api.Message) { m.State = s }})
	}
	for _, v := range []api.Vector{
		nil, {}, {{Author: 101, Count: 1}}, {{Author: 1, Count: 1000000}, {Author: math.MaxInt, Count: 1}}, entries(100), entries(101), {{}}, {{Author: 101}}, {{Count: 1}},
		{{Author: 101, Count: 1000001}}, {{Author: 102, Count: 1}, {Author: 101, Count: 1}}, {{Author: 101, Count: 1}, {Author: 101, Count: 0}}, {{Author: 1 << 31, Count: 1}},
	} {
		out = append(out, fieldSet{"Have", func(m *api.Message) { m.Have = v }})
	}
	return out
}

// with returns m with some changes.
func with(m api.Message, sets ...fieldSet) api.Message {
	for _, x := range sets {
		x.set(&m)
	}
	return m
}

// same reports whether a and b are equal, by reflection instead of Equal. Empty lists are equal.
func same(a, b api.Message) bool { return sameValue(reflect.ValueOf(a), reflect.ValueOf(b)) }

func sameValue(a, b reflect.Value) bool {
	switch a.Kind() {
	case reflect.Struct:
		for i := range a.NumField() {
			if !sameValue(a.Field(i), b.Field(i)) {
				return false
			}
		}
		return true
	case reflect.Slice:
		if a.Len() != b.Len() {
			return false
		}
		for i := range a.Len() {
			if !sameValue(a.Index(i), b.Index(i)) {
				return false
			}
		}
		return true
	}
	return a.Equal(b)
}

// none reports whether a message, together with an error, is the zero value.
func none(m api.Message) bool { return same(m, api.Message{}) }

// P14.1

// uses returns the fields that a kind uses, in their order.
func uses(kind int) []string {
	switch kind {
	case api.MsgRequest:
		return strings.Fields("Access Round Mode Config State")
	case api.MsgResponse:
		return strings.Fields("Access Round Config State HasBase Base Established")
	case api.MsgTransfer, api.MsgFilled, api.MsgNews, api.MsgNoted:
		return strings.Fields("Cert")
	case api.MsgFetch:
		return strings.Fields("Cert Have")
	case api.MsgChunk:
		return strings.Fields("Cert State More HasBase Base Established")
	}
	return nil
}

// Every field that a kind does not use must be zero, in each of its parts.
func TestFieldsThatAKindDoesNotUse(t *testing.T) {
	one, p := api.Config{{}}, proposals(1, 0, 0)
	for _, x := range []fieldSet{
		{"Access", func(m *api.Message) { m.Access.Process = 101 }},
		{"Access", func(m *api.Message) { m.Access.Number = 1 }},
		{"Access", func(m *api.Message) { m.Access = api.AccessID{Process: 101, Number: 1} }},
		{"Round", func(m *api.Message) { m.Round = 1 }},
		{"Round", func(m *api.Message) { m.Round = -1 }},
		{"Mode", func(m *api.Message) { m.Mode = api.ModeStore }},
		{"Cert", func(m *api.Message) { m.Cert.From = one }},
		{"Cert", func(m *api.Message) { m.Cert.To = p }},
		{"Cert", func(m *api.Message) { m.Cert = second }},
		{"Base", func(m *api.Message) { m.Base.From = p }},
		{"Base", func(m *api.Message) { m.Base.To = one }},
		{"Base", func(m *api.Message) { m.Base = second }},
		{"HasBase", func(m *api.Message) { m.HasBase = true }},
		{"Established", func(m *api.Message) { m.Established.From = p }},
		{"Established", func(m *api.Message) { m.Established.To = p }},
		{"Config", func(m *api.Message) { m.Config = one }},
		{"Config", func(m *api.Message) { m.Config = p }},
		{"State", func(m *api.Message) { m.State = api.State{{}} }},
		{"State", func(m *api.Message) { m.State = updates(1) }},
		{"Have", func(m *api.Message) { m.Have = api.Vector{{}} }},
		{"Have", func(m *api.Message) { m.Have = entries(1) }},
		{"More", func(m *api.Message) { m.More = true }},
	} {
		for _, m := range samples() {
			if slices.Contains(uses(m.Kind), x.name) {
				continue
			}
			if e := Validate(with(m, x)); e != api.ErrInvalid {
				t.Errorf("Validate(%v) = %v, although kind %d does not use %s", with(m, x), e, m.Kind, x.name)
			}
		}
	}
}

// Each field that a kind uses is not zero in one of the samples, and no other one is.
func TestSamplesUseAllFields(t *testing.T) {
	used := map[int]map[string]bool{}
	for _, m := range samples() {
		if used[m.Kind] == nil {
			used[m.Kind] = map[string]bool{}
		}
		v := reflect.ValueOf(m)
		for i := range v.NumField() {
			used[m.Kind][v.Type().Field(i).Name] = used[m.Kind][v.Type().Field(i).Name] || !v.Field(i).IsZero()
		}
	}
	for kind := 1; kind <= 8; kind++ {
		for name, is := range used[kind] {
			if is != (slices.Contains(uses(kind), name) || slices.Contains([]string{"Kind", "From", "To"}, name)) {
				t.Errorf("kind %d: %s is used: %v", kind, name, is)
			}
		}
	}
}

// P14.2

func TestValidateSamples(t *testing.T) {
	for _, m := range append(samples(), large()...) {
		if e := Validate(m); e != api.OK {
			t.Errorf("Validate(%v) = %v", m, e)
		}
	}
}

func TestValidateKinds(t *testing.T) {
	for kind := -3; kind <= 300; kind++ {
		want, unknown := api.OK, kind < 1 || kind > 8
		switch {
		case unknown:
			want = api.ErrKind
		case kind == api.MsgRequest || kind == api.MsgResponse: // without an access
			want = api.ErrRange
		}
		m := api.Message{Kind: kind, From: 5, To: 201}
		if e := Validate(m); e != want {
			t.Errorf("Validate of kind %d = %v, want %v", kind, e, want)
		}
		m.From = 0
		if e := Validate(m); (e == api.ErrKind) != unknown {
			t.Errorf("Validate of kind %d from process 0 = %v", kind, e)
		}
	}
}

func TestValidateProcesses(t *testing.T) {
	for id := -300; id <= 300; id++ {
		server, client, admin := id >= 1 && id <= 12, id >= 101 && id <= 106, id >= 201 && id <= 203
		for _, m := range samples() {
			from, to, access := m, m, m
			from.From, to.To, access.Access.Process = id, id, id
			if e, f := Validate(from), Validate(to); (e == api.OK) != (server || client || admin) || e != f || e != api.OK && e != api.ErrRange {
				t.Errorf("Validate from %d = %v, to %d = %v", id, e, id, f)
			}
			if m.Kind > api.MsgResponse {
				continue
			}
			if e := Validate(access); (e == api.OK) != (client || admin) || e != api.OK && e != api.ErrRange {
				t.Errorf("Validate of an access of %d = %v", id, e)
			}
		}
	}
}

func TestValidateFields(t *testing.T) {
	gap := api.Config{sample(201, 2)}
	list := samples()
	request, agree, response, fetch, chunk, news := list[0], list[2], list[7], list[10], list[13], list[18]
	for _, x := range []struct {
		name string
		m    api.Message
		set  func(m *api.Message)
		e    api.Errno
	}{
		{"an access with number 0", request, func(m *api.Message) { m.Access.Number = 0 }, api.ErrRange},
		{"an access with number 1", request, func(m *api.Message) { m.Access.Number = 1 }, api.OK},
		{"an access with number 1000000", response, func(m *api.Message) { m.Access.Number = 1000000 }, api.OK},
		{"an access with number 1000001", response, func(m *api.Message) { m.Access.Number = 1000001 }, api.ErrRange},
		{"an access of a server", request, func(m *api.Message) { m.Access.Process = 1 }, api.ErrRange},
		{"an access without a process", response, func(m *api.Message) { m.Access.Process = 0 }, api.ErrRange},
		{"round 0", request, func(m *api.Message) { m.Round = 0 }, api.ErrRange},
		{"round -1", response, func(m *api.Message) { m.Round = -1 }, api.ErrRange},
		{"round 1000000", response, func(m *api.Message) { m.Round = 1000000 }, api.OK},
		{"round 1000001", response, func(m *api.Message) { m.Round = 1000001 }, api.ErrRange},
		{"mode 0", request, func(m *api.Message) { m.Mode = 0 }, api.ErrKind},
		{"mode 3", request, func(m *api.Message) { m.Mode = 3 }, api.OK},
		{"mode 4", request, func(m *api.Message) { m.Mode = 4 }, api.ErrKind},
		{"mode -1", request, func(m *api.Message) { m.Mode = -1 }, api.ErrKind},
		{"a mode in a response", response, func(m *api.Message) { m.Mode = 1 }, api.ErrInvalid},
		{"a configuration with a gap", request, func(m *api.Message) { m.Config = gap }, api.ErrGap},
		{"a configuration not in order", response, func(m *api.Message) { m.Config = api.Config{sample(202, 1), sample(201, 1)} }, api.ErrOrder},
		{"a state to collect", request, func(m *api.Message) { m.Mode = api.ModeCollect }, api.ErrInvalid},
		{"no state to collect", request, func(m *api.Message) { m.Mode, m.State = api.ModeCollect, api.State{} }, api.OK},
		{"a bad state to collect", request, func(m *api.Message) { m.Mode, m.State = api.ModeCollect, api.State{effects(101, 2)} }, api.ErrGap},
		{"no state to store", request, func(m *api.Message) { m.State = nil }, api.OK},
		{"a state with a gap", agree, func(m *api.Message) { m.State = api.State{effects(101, 1), effects(101, 3)} }, api.ErrGap},
		{"a state not in order", response, func(m *api.Message) { m.State = api.State{effects(102, 1), effects(101, 1)} }, api.ErrOrder},
		{"a state with a bad update", response, func(m *api.Message) { m.State = api.State{marking(101, 9)} }, api.ErrRange},
		{"a state of five updates", response, func(m *api.Message) { m.State = updates(5) }, api.OK},

		{"a chunk of no updates", chunk, func(m *api.Message) { m.State = nil }, api.OK},
		{"a chunk of four updates", chunk, func(m *api.Message) { m.State = updates(4) }, api.OK},
		{"a chunk of five updates", chunk, func(m *api.Message) { m.State = updates(5) }, api.ErrTooLong},
		{"a chunk of five bad updates", chunk, func(m *api.Message) { m.State = make(api.State, 5) }, api.ErrTooLong},
		{"a chunk that begins behind a gap", chunk, func(m *api.Message) { m.State = api.State{effects(106, 8)} }, api.OK},
		{"a chunk with a gap", chunk, func(m *api.Message) { m.State = api.State{effects(101, 2), effects(101, 8)} }, api.OK},
		{"a chunk with the same update twice", chunk, func(m *api.Message) { m.State = api.State{effects(101, 2), effects(101, 2)} }, api.ErrOrder},
		{"a chunk with two updates of an identifier", chunk, func(m *api.Message) { m.State = api.State{effects(101, 2), marking(101, 2)} }, api.ErrOrder},
		{"a chunk not in order", chunk, func(m *api.Message) { m.State = api.State{effects(102, 1), effects(101, 2)} }, api.ErrOrder},
		{"a chunk with a bad update", chunk, func(m *api.Message) { m.State = api.State{effects(101, 1), {Client: 101, Seq: 2}} }, api.ErrInvalid},
		{"a bad update not in order", chunk, func(m *api.Message) { m.State = api.State{effects(101, 2), marking(101, 0)} }, api.ErrRange},
		{"an update not in order before a bad one", chunk, func(m *api.Message) { m.State = api.State{effects(101, 2), effects(101, 1), {}} }, api.ErrOrder},

		{"a base", response, func(m *api.Message) { m.Base = last }, api.OK},
		{"no base", response, func(m *api.Message) { m.HasBase, m.Base = false, initial }, api.OK},
		{"the initial certificate as base", chunk, func(m *api.Message) { m.Base = initial }, api.OK},
		{"no base, of empty lists", chunk, func(m *api.Message) { m.HasBase, m.Base = false, api.Certificate{From: api.Config{}, To: api.Config{}} }, api.OK},
		{"a base that is said not to be there", response, func(m *api.Message) { m.HasBase = false }, api.ErrInvalid},
		{"a base of a chunk that is said not to be there", chunk, func(m *api.Message) { m.HasBase = false }, api.ErrInvalid},
		{"a bad base that is said not to be there", response, func(m *api.Message) { m.HasBase, m.Base = false, api.Certificate{From: gap} }, api.ErrInvalid},
		{"a base with a gap", response, func(m *api.Message) { m.Base = api.Certificate{To: gap} }, api.ErrGap},
		{"a base back to the empty configuration", chunk, func(m *api.Message) { m.Base = api.Certificate{From: first.To} }, api.ErrInvalid},
		{"an established certificate with a gap", response, func(m *api.Message) { m.Established.From = gap }, api.ErrGap},
		{"an established certificate of a chunk with a gap", chunk, func(m *api.Message) { m.Established.To = gap }, api.ErrGap},
		{"a certificate with a gap", news, func(m *api.Message) { m.Cert.To = gap }, api.ErrGap},
		{"a certificate back to the empty configuration", fetch, func(m *api.Message) { m.Cert.To = nil }, api.ErrInvalid},
		{"the initial certificate", news, func(m *api.Message) { m.Cert = api.Certificate{To: api.Config{}} }, api.OK},
		{"the initial certificate in a chunk", chunk, func(m *api.Message) { m.Cert = initial }, api.OK},
		{"a round in news", news, func(m *api.Message) { m.Round = 1 }, api.ErrInvalid},

		{"a vector with a count of 0", fetch, func(m *api.Message) { m.Have = api.Vector{{Author: 101}} }, api.ErrRange},
		{"a vector not in order", fetch, func(m *api.Message) { m.Have = api.Vector{{Author: 102, Count: 1}, {Author: 101, Count: 1}} }, api.ErrOrder},
		{"a vector of 1000 entries", fetch, func(m *api.Message) { m.Have = entries(1000) }, api.OK},
		{"a vector with a great author", fetch, func(m *api.Message) { m.Have = api.Vector{{Author: math.MaxInt, Count: 1}} }, api.OK},

		{"the kind before From", request, func(m *api.Message) { m.Kind, m.From = 9, 0 }, api.ErrKind},
		{"From before a field that is not used", request, func(m *api.Message) { m.From, m.More = 0, true }, api.ErrRange},
		{"To before a field that is not used", news, func(m *api.Message) { m.To, m.More = 13, true }, api.ErrRange},
		{"a field that is not used before the access", request, func(m *api.Message) { m.More, m.Access.Number = true, 0 }, api.ErrInvalid},
		{"a field that is not used before the certificate", news, func(m *api.Message) { m.Have, m.Cert.To = entries(1), gap }, api.ErrInvalid},
		{"the access before the mode", request, func(m *api.Message) { m.Access.Number, m.Mode = 0, 0 }, api.ErrRange},
		{"the round before the mode", request, func(m *api.Message) { m.Round, m.Mode = 0, 0 }, api.ErrRange},
		{"the mode before the configuration", request, func(m *api.Message) { m.Mode, m.Config = 4, gap }, api.ErrKind},
		{"the configuration before the state", request, func(m *api.Message) { m.Config, m.State = gap, api.State{{}} }, api.ErrGap},
		{"the round before the configuration", response, func(m *api.Message) { m.Round, m.Config = 0, gap }, api.ErrRange},
		{"the state before the base", response, func(m *api.Message) { m.State, m.Base.To = api.State{{}}, gap }, api.ErrRange},
		{"the base before the established certificate", response, func(m *api.Message) { m.Base, m.Established.To = api.Certificate{From: first.To}, gap }, api.ErrInvalid},
		{"the certificate before the vector", fetch, func(m *api.Message) { m.Cert, m.Have = api.Certificate{To: gap}, api.Vector{{}} }, api.ErrGap},
		{"the certificate before the updates", chunk, func(m *api.Message) { m.Cert, m.State = api.Certificate{To: gap}, updates(5) }, api.ErrGap},
		{"the updates before the base", chunk, func(m *api.Message) { m.State, m.Base.To = updates(5), gap }, api.ErrTooLong},
	} {
		m := x.m
		x.set(&m)
		if e := Validate(m); e != x.e {
			t.Errorf("%s: Validate = %v, want %v", x.name, e, x.e)
		}
	}
}

// firstError is the list of conditions of P14.2.
func firstError(m api.Message) api.Errno {
	if m.Kind < 1 || m.Kind > 8 {
		return api.ErrKind
	}
	for _, id := range []int{m.From, m.To} {
		if !(id >= 1 && id <= 12 || id >= 101 && id <= 106 || id >= 201 && id <= 203) {
			return api.ErrRange
		}
	}
	v := reflect.ValueOf(m)
	for i := range v.NumField() {
		name := v.Type().Field(i).Name
		if name == "Kind" || name == "From" || name == "To" || slices.Contains(uses(m.Kind), name) {
			continue
		}
		if !sameValue(v.Field(i), reflect.Zero(v.Field(i).Type())) {
			return api.ErrInvalid
		}
	}
	for _, name := range uses(m.Kind) {
		if e := fieldError(m, name); e != api.OK {
			return e
		}
	}
	return api.OK
}

// fieldError is the list of conditions of P14.2 for one field.
func fieldError(m api.Message, name string) api.Errno {
	switch name {
	case "Access":
		if !(m.Access.Process >= 101 && m.Access.Process <= 106 || m.Access.Process >= 201 && m.Access.Process <= 203) {
			return api.ErrRange
		}
		if m.Access.Number < 1 || m.Access.Number > 1000000 {
			return api.ErrRange
		}
	case "Round":
		if m.Round < 1 || m.Round > 1000000 {
			return api.ErrRange
		}
	case "Mode":
		if m.Mode < 1 || m.Mode > 3 {
			return api.ErrKind
		}
	case "Config":
		return config.Validate(m.Config)
	case "State":
		return stateError(m)
	case "Base":
		if !m.HasBase && len(m.Base.From)+len(m.Base.To) > 0 {
			return api.ErrInvalid
		}
		return cert.Validate(m.Base)
	case "Established":
		return cert.Validate(m.Established)
	case "Cert":
		return cert.Validate(m.Cert)
	case "Have":
		return vector.Validate(m.Have)
	}
	return api.OK
}

// stateError is the list of conditions of P14.2 for State.
func stateError(m api.Message) api.Errno {
	if m.Kind != api.MsgChunk {
		if e := state.Validate(m.State); e != api.OK {
			return e
		}
		if m.Kind == api.MsgRequest && m.Mode == api.ModeCollect && len(m.State) > 0 {
			return api.ErrInvalid
		}
		return api.OK
	}
	if len(m.State) > 4 {
		return api.ErrTooLong
	}
	for i := range m.State {
		if e := update.Validate(m.State[i]); e != api.OK {
			return e
		}
		if i > 0 && update.Compare(m.State[i], m.State[i-1]) != 1 {
			return api.ErrOrder
		}
	}
	return api.OK
}

func TestValidateReturnsFirstError(t *testing.T) {
	sets := changes()
	for _, m := range samples() {
		for k, x := range sets {
			for _, y := range sets[k:] {
				changed := with(m, x, y)
				if e := Validate(changed); e != firstError(changed) {
					t.Fatalf("Validate(%v) = %v, want %v", changed, e, firstError(changed))
				}
			}
		}
	}
}

// P14.3

func TestEqualComparesAllFields(t *testing.T) {
	sets := changes()
	for _, m := range samples() {
		for _, x := range sets {
			changed := with(m, x)
			want := same(m, changed)
			if Equal(m, changed) != want || Equal(changed, m) != want || !Equal(changed, changed) {
				t.Errorf("Equal of %v and %v is not %v", m, changed, want)
			}
		}
	}
	for i, m := range append(samples(), large()...) {
		for k, n := range append(samples(), large()...) {
			if Equal(m, n) != (i == k) {
				t.Errorf("Equal of %v and %v", m, n)
			}
		}
	}
}

// Equal compares any messages: those that are not valid, too, in all parts of all fields.
func TestEqualComparesAllParts(t *testing.T) {
	m := api.Message{
		Kind: -1, From: 2, To: 3, Access: api.AccessID{Process: 4, Number: 5}, Round: 6, Mode: 7, Cert: second, Base: last, Established: second,
		Config: proposals(1, 1, 0), State: api.State{effects(101, 4), effects(102, 1), effects(101, 4)}, Have: api.Vector{{Author: 9, Count: 0}, {Author: 8, Count: 9}},
	}
	count := 0
	for i := range countParts(m) {
		changed := copied(m)
		if !Equal(m, changed) || !Equal(changed, m) {
			t.Fatalf("%v is not equal to its copy", m)
		}
		changePart(reflect.ValueOf(&changed).Elem(), &i)
		if Equal(m, changed) || Equal(changed, m) {
			t.Errorf("%v is equal to %v", m, changed)
		}
		count++
	}
	if count < 200 {
		t.Errorf("%d parts", count)
	}
}

// copied returns a deep copy of m.
func copied(m api.Message) api.Message {
	return roomyValue(reflect.ValueOf(m), 0).Interface().(api.Message)
}

// countParts returns the number of numbers, strings and booleans in m.
func countParts(m api.Message) int {
	for n := 0; ; n++ {
		changed, i := copied(m), n
		if changePart(reflect.ValueOf(&changed).Elem(), &i); same(m, changed) {
			return n
		}
	}
}

// changePart changes the number, string or boolean in v before which there are i others.
func changePart(v reflect.Value, i *int) {
	switch v.Kind() {
	case reflect.Struct:
		for k := range v.NumField() {
			changePart(v.Field(k), i)
		}
		return
	case reflect.Slice:
		for k := range v.Len() {
			changePart(v.Index(k), i)
		}
		return
	}
	if *i == 0 {
		switch v.Kind() {
		case reflect.Bool:
			v.SetBool(!v.Bool())
		case reflect.String:
			v.SetString(v.String() + "x")
		default:
			v.SetInt(v.Int() + 1)
		}
	}
	*i--
}

// Lists are compared element by element, in their order and to their ends.
func TestEqualComparesLists(t *testing.T) {
	for _, x := range []struct{ a, b api.Message }{
		{api.Message{Config: proposals(2, 1, 0)}, api.Message{Config: proposals(2, 0, 0)}},
		{api.Message{Config: api.Config{sample(201, 1), sample(202, 1)}}, api.Message{Config: api.Config{sample(202, 1), sample(201, 1)}}},
		{api.Message{Config: api.Config{sample(201, 1), sample(201, 1)}}, api.Message{Config: api.Config{sample(201, 1)}}},
		{api.Message{Config: api.Config{{}}}, api.Message{}},
		{api.Message{State: updates(2)}, api.Message{State: updates(1)}},
		{api.Message{State: updates(2)}, api.Message{State: updates(1, 1)}},
		{api.Message{State: api.State{effects(101, 1), effects(101, 2)}}, api.Message{State: api.State{effects(101, 2), effects(101, 1)}}},
		{api.Message{State: api.State{effects(101, 1)}}, api.Message{State: api.State{marking(101, 1)}}},
		{api.Message{State: api.State{{}}}, api.Message{}},
		{api.Message{Have: entries(3)}, api.Message{Have: entries(2)}},
		{api.Message{Have: api.Vector{{}}}, api.Message{}},
		{api.Message{Have: api.Vector{{Author: 1, Count: 2}, {Author: 2, Count: 1}}}, api.Message{Have: api.Vector{{Author: 2, Count: 1}, {Author: 1, Count: 2}}}},
		{api.Message{Cert: first}, api.Message{Base: first}},
		{api.Message{Cert: first}, api.Message{Cert: api.Certificate{From: first.To}}},
		{api.Message{Established: first}, api.Message{Base: first}},
	} {
		if Equal(x.a, x.b) || Equal(x.b, x.a) || !Equal(x.a, copied(x.a)) || !Equal(x.b, copied(x.b)) {
			t.Errorf("Equal of %v and %v", x.a, x.b)
		}
	}
}

// P14.4

// numbers encodes numbers one after the other.
func numbers(list ...uint64) []byte {
	var b []byte
	for _, n := range list {
		b = binary.AppendUvarint(b, n)
	}
	return b
}

func flag(b bool) []byte {
	if b {
		return []byte{1}
	}
	return []byte{0}
}

// parts returns the encodings of all values of m, in their order.
func parts(m api.Message) [][]byte {
	out := [][]byte{numbers(uint64(m.Kind)), numbers(uint64(m.From)), numbers(uint64(m.To))}
	for _, name := range uses(m.Kind) {
		switch name {
		case "Access":
			out = append(out, numbers(uint64(m.Access.Process)), numbers(uint64(m.Access.Number)))
		case "Round":
			out = append(out, numbers(uint64(m.Round)))
		case "Mode":
			out = append(out, numbers(uint64(m.Mode)))
		case "Config":
			out = append(out, config.Append(nil, m.Config))
		case "State":
			out = append(out, numbers(uint64(len(m.State))))
			for _, u := range m.State {
				out = append(out, update.Append(nil, u))
			}
		case "HasBase":
			out = append(out, flag(m.HasBase))
		case "More":
			out = append(out, flag(m.More))
		case "Base":
			if m.HasBase {
				out = append(out, cert.Append(nil, m.Base))
			}
		case "Established":
			out = append(out, cert.Append(nil, m.Established))
		case "Cert":
			out = append(out, cert.Append(nil, m.Cert))
		case "Have":
			out = append(out, numbers(uint64(len(m.Have))))
			for _, entry := range m.Have {
				out = append(out, numbers(uint64(entry.Author)), numbers(uint64(entry.Count)))
			}
		}
	}
	return out
}

// encoded returns the encoding of m.
func encoded(m api.Message) []byte { return slices.Concat(parts(m)...) }

func TestAppendExamples(t *testing.T) {
	remove := api.Config{{Admin: 201, Number: 1, Changes: []api.Change{{Kind: api.ChangeRemove, Server: 1}}}}
	removing, marks := []byte{1, 201, 1, 1, 1, 2, 1, 0, 0, 0, 0, 0}, []byte{2, 0, 1, 5, 1, 'x', 1, 'y', 0, 0}
	id := api.AccessID{Process: 203, Number: 300}
	c := api.Certificate{To: remove}
	for _, x := range []struct {
		m    api.Message
		want [][]byte
	}{
		{api.Message{Kind: api.MsgNews, From: 5, To: 101}, [][]byte{{7, 5, 101, 0, 0}}},
		{api.Message{Kind: api.MsgNoted, From: 5, To: 202, Cert: c}, [][]byte{{8, 5, 202, 1, 0}, removing}},
		{api.Message{Kind: api.MsgTransfer, From: 202, To: 5, Cert: api.Certificate{From: remove, To: remove}}, [][]byte{{3, 202, 1, 5}, removing, removing}},
		{api.Message{Kind: api.MsgFilled, From: 5, To: 6, Cert: c}, [][]byte{{6, 5, 6, 0}, removing}},
		{
			api.Message{Kind: api.MsgRequest, From: 203, To: 1, Access: id, Round: 128, Mode: api.ModeStore, Config: remove, State: api.State{marking(101, 1), marking(101, 2)}},
			[][]byte{{1, 203, 1, 1, 203, 1, 172, 2, 128, 1, 2}, removing, {2, 101, 1}, marks[1:], {101}, marks},
		},
		{
			api.Message{Kind: api.MsgResponse, From: 1, To: 203, Access: id, Round: 1, HasBase: true, Base: c, Established: c},
			[][]byte{{2, 1, 203, 1, 203, 1, 172, 2, 1, 0, 0, 1, 0}, removing, {0}, removing},
		},
		{
			api.Message{Kind: api.MsgResponse, From: 1, To: 203, Access: id, Round: 1, State: api.State{marking(106, 2)}, HasBase: true},
			[][]byte{{2, 1, 203, 1, 203, 1, 172, 2, 1, 0, 1, 106}, marks, {1, 0, 0, 0, 0}},
		},
		{
			api.Message{Kind: api.MsgResponse, From: 1, To: 203, Access: id, Round: 1, Established: c},
			[][]byte{{2, 1, 203, 1, 203, 1, 172, 2, 1, 0, 0, 0, 0}, removing},
		},
		{
			api.Message{Kind: api.MsgFetch, From: 5, To: 5, Cert: c, Have: api.Vector{{Author: 101, Count: 2}, {Author: 300, Count: 8}}},
			[][]byte{{4, 5, 5, 0}, removing, {2, 101, 2, 172, 2, 8}},
		},
		{
			api.Message{Kind: api.MsgChunk, From: 5, To: 5, Cert: c, State: api.State{marking(106, 2)}, More: true, Established: c},
			[][]byte{{5, 5, 5, 0}, removing, {1, 106}, marks, {1, 0, 0}, removing},
		},
		{
			api.Message{Kind: api.MsgChunk, From: 5, To: 5, HasBase: true, Base: c},
			[][]byte{{5, 5, 5, 0, 0, 0, 0, 1, 0}, removing, {0, 0}},
		},
	} {
		want := slices.Concat(x.want...)
		if got := Append([]byte("ab"), x.m); !bytes.Equal(got, append([]byte("ab"), want...)) {
			t.Errorf("Append(ab, %v) = %v, want ab and %v", x.m, got, want)
		}
	}
}

func TestAppendIsAllValues(t *testing.T) {
	for _, m := range append(samples(), large()...) {
		if got, want := Append([]byte{7}, m), append([]byte{7}, encoded(m)...); !bytes.Equal(got, want) {
			t.Errorf("Append(7, %v) = %v, want %v", m, got, want)
		}
	}
}

// P14.5

func TestDecodeErrors(t *testing.T) {
	overlong, endless, tooGreat := []byte{128, 0}, bytes.Repeat([]byte{255}, 10), numbers(1<<31)
	request := numbers(1, 101, 3, 101, 7, 2, 2, 0) // up to its state
	response := numbers(2, 3, 101, 101, 7, 2, 0)   // up to its state
	chunk, fetch := numbers(5, 1, 5, 0, 0), numbers(4, 5, 5, 0, 0)
	one, two := update.Append(nil, effects(101, 1)), update.Append(nil, effects(101, 2))
	gap := config.Append(nil, api.Config{sample(201, 2)})
	back := cert.Append(nil, api.Certificate{From: first.To})
	for _, x := range []struct {
		name  string
		parts [][]byte
		e     api.Errno
	}{
		{"nothing", nil, api.ErrTruncated},
		{"a kind cut off", [][]byte{{129}}, api.ErrTruncated},
		{"a kind that is overlong", [][]byte{overlong}, api.ErrInvalid},
		{"a kind of more than 64 bits", [][]byte{endless}, api.ErrRange},
		{"a kind of 2^31", [][]byte{tooGreat}, api.ErrRange},
		{"a kind of 2^32 + 7", [][]byte{numbers(1<<32+7, 1, 1, 0, 0)}, api.ErrRange},
		{"a kind of 2^31 - 1", [][]byte{numbers(1<<31 - 1)}, api.ErrKind},
		{"kind 0", [][]byte{{0}}, api.ErrKind},
		{"kind 9", [][]byte{{9}}, api.ErrKind},
		{"kind 9 before a number too great", [][]byte{{9}, tooGreat}, api.ErrKind},
		{"a From of 2^31", [][]byte{{7}, tooGreat}, api.ErrRange},
		{"a From that is overlong", [][]byte{{7}, overlong}, api.ErrInvalid},
		{"a To that is overlong", [][]byte{{7, 1}, overlong}, api.ErrInvalid},
		{"a To of 2^31", [][]byte{{7, 1}, tooGreat}, api.ErrRange},
		{"a From of 0", [][]byte{{7, 0, 1, 0, 0}}, api.ErrRange},
		{"a To of 13", [][]byte{{7, 1, 13, 0, 0}}, api.ErrRange},
		{"the end before a From of 0", [][]byte{{7, 0, 1, 0}}, api.ErrTruncated},
		{"a certificate of 10 proposals", [][]byte{{7, 1, 1, 0, 10}}, api.ErrTooLong},
		{"a certificate that is not valid", [][]byte{{7, 1, 1}, back}, api.ErrInvalid},
		{"a certificate with a gap before a From of 0", [][]byte{{7, 0, 1}, gap}, api.ErrGap},

		{"a process of an access of 2^31", [][]byte{numbers(1, 101, 3), tooGreat}, api.ErrRange},
		{"a number of an access that is overlong", [][]byte{numbers(1, 101, 3, 101), overlong}, api.ErrInvalid},
		{"a round that is overlong", [][]byte{numbers(1, 101, 3, 101, 7), overlong}, api.ErrInvalid},
		{"a mode of 2^31", [][]byte{numbers(1, 101, 3, 101, 7, 2), tooGreat}, api.ErrRange},
		{"mode 4", [][]byte{numbers(1, 101, 3, 101, 7, 2, 4, 0, 0)}, api.ErrKind},
		{"an access of number 0, of mode 4", [][]byte{numbers(1, 101, 3, 101, 0, 2, 4, 0, 0)}, api.ErrRange},
		{"an access of a server", [][]byte{numbers(1, 101, 3, 3, 7, 2, 2, 0, 0)}, api.ErrRange},
		{"an access of number 1000001", [][]byte{numbers(2, 3, 101, 101, 1000001, 2, 0, 0, 0, 0, 0)}, api.ErrRange},
		{"round 1000001", [][]byte{numbers(2, 3, 101, 101, 7, 1000001, 0, 0, 0, 0, 0)}, api.ErrRange},
		{"a configuration of 10 proposals", [][]byte{numbers(1, 101, 3, 101, 7, 2, 2, 10)}, api.ErrTooLong},
		{"a configuration with a gap", [][]byte{numbers(1, 101, 3, 101, 7, 2, 2), gap, {0}}, api.ErrGap},
		{"a configuration with a gap, before the end", [][]byte{numbers(1, 101, 3, 101, 7, 2, 2), gap}, api.ErrGap},
		{"a configuration with a gap, and mode 4", [][]byte{numbers(1, 101, 3, 101, 7, 2, 4), gap, {0}}, api.ErrGap},
		{"mode 4 before the end", [][]byte{numbers(1, 101, 3, 101, 7, 2, 4, 0)}, api.ErrTruncated},

		{"49 updates", [][]byte{request, {49}}, api.ErrTooLong},
		{"48 updates alone", [][]byte{request, {48}}, api.ErrTruncated},
		{"2^31 - 1 updates", [][]byte{response, numbers(1<<31 - 1)}, api.ErrTooLong},
		{"2^31 updates", [][]byte{response, tooGreat}, api.ErrRange},
		{"an overlong number of updates", [][]byte{chunk, {129, 0}}, api.ErrInvalid},
		{"49 updates of a chunk", [][]byte{chunk, {49}}, api.ErrTooLong},
		{"an update that is not valid", [][]byte{request, {1, 101, 1, 0, 0}}, api.ErrInvalid},
		{"an update that is not valid before the end", [][]byte{request, {2, 101, 9, 0, 1, 5, 1, 'x', 1, 'y', 0, 0}}, api.ErrRange},
		{"an update cut off", [][]byte{request, {1}, one[:len(one)-1]}, api.ErrTruncated},
		{"a state with a gap", [][]byte{request, {1}, two}, api.ErrGap},
		{"a state not in order", [][]byte{request, {2}, one, one}, api.ErrOrder},
		{"a state with a gap before the end", [][]byte{request, {2}, two}, api.ErrTruncated},
		{"a state with a gap before a bad update", [][]byte{request, {2}, two, {101, 1, 0, 5}}, api.ErrTooLong},
		{"a state with a gap before a bad base", [][]byte{response, {1}, two, {2}}, api.ErrInvalid},
		{"a state with a gap before a bad certificate", [][]byte{response, {1}, two, {0, 10}}, api.ErrTooLong},
		{"a state to collect", [][]byte{numbers(1, 101, 3, 101, 7, 2, 1, 0, 1), one}, api.ErrInvalid},
		{"a chunk not in order", [][]byte{chunk, {2}, two, one, {0, 0, 0, 0}}, api.ErrOrder},
		{"a chunk not in order before the end", [][]byte{chunk, {2}, two, one, {0, 0, 0}}, api.ErrTruncated},
		{"a chunk of five updates", [][]byte{chunk, {5}, two, two, two, two, two, {0, 0, 0, 0}}, api.ErrTooLong},
		{"a chunk of five updates before the end", [][]byte{chunk, {5}, two, two, two, two, two, {0, 0, 0}}, api.ErrTruncated},
		{"a chunk of five updates before a flag of 2", [][]byte{chunk, {5}, two, two, two, two, two, {2}}, api.ErrInvalid},

		{"a HasBase of 2", [][]byte{response, {0, 2}}, api.ErrInvalid},
		{"a More of 7", [][]byte{chunk, {0, 7}}, api.ErrInvalid},
		{"a More of 128", [][]byte{chunk, {0, 128}}, api.ErrInvalid},
		{"a HasBase of a chunk of 2", [][]byte{chunk, {0, 1, 2}}, api.ErrInvalid},
		{"no base", [][]byte{response, {0, 1}}, api.ErrTruncated},
		{"a base alone", [][]byte{response, {0, 1, 0, 0}}, api.ErrTruncated},
		{"a base that is not valid", [][]byte{response, {0, 1}, back}, api.ErrInvalid},
		{"a base of 10 proposals", [][]byte{chunk, {0, 0, 1, 0, 10}}, api.ErrTooLong},
		{"an established certificate with a gap", [][]byte{chunk, {0, 0, 0}, gap, {0}}, api.ErrGap},

		{"101 entries", [][]byte{fetch, {101}}, api.ErrTooLong},
		{"100 entries alone", [][]byte{fetch, {100}}, api.ErrTruncated},
		{"2^31 entries", [][]byte{fetch, tooGreat}, api.ErrRange},
		{"an author of 2^31", [][]byte{fetch, {1}, tooGreat, {1}}, api.ErrRange},
		{"an author that is overlong", [][]byte{fetch, {1}, overlong, {1}}, api.ErrInvalid},
		{"a count of 2^31", [][]byte{fetch, {1, 3}, tooGreat}, api.ErrRange},
		{"a count that is overlong", [][]byte{fetch, {1, 3}, overlong}, api.ErrInvalid},
		{"a count of 0", [][]byte{fetch, {1, 3, 0}}, api.ErrRange},
		{"a count of 1000001", [][]byte{fetch, numbers(1, 3, 1000001)}, api.ErrRange},
		{"authors not in order", [][]byte{fetch, {2, 3, 1, 3, 1}}, api.ErrOrder},
		{"authors not in order before the end", [][]byte{fetch, {3, 3, 1, 2, 1}}, api.ErrTruncated},
	} {
		b := slices.Concat(x.parts...)
		if m, n, e := Decode(b); !none(m) || n != 0 || e != x.e {
			t.Errorf("%s: Decode(%v) = %v, %d, %v, want %v", x.name, b, m, n, e, x.e)
		}
	}
}

// valueReader is a model of what Decode reads: it takes the values of an encoding from its beginning, up to the first error.
type valueReader struct {
	rest []byte
	e    api.Errno
}

// take takes a value that a decoder reads.
func take[V any](v *valueReader, decode func([]byte) (V, int, api.Errno)) V {
	var none V
	if v.e != api.OK {
		return none
	}
	x, n, e := decode(v.rest)
	if v.e = e; e != api.OK {
		return none
	}
	v.rest = v.rest[n:]
	return x
}

// number takes an unsigned integer; above most there is an error.
func (v *valueReader) number(most uint64, above api.Errno) int {
	x := take(v, wire.Uint)
	if v.e == api.OK && x >= 1<<31 {
		v.e = api.ErrRange
	}
	if v.e == api.OK && x > most {
		v.e = above
	}
	if v.e != api.OK {
		return 0
	}
	return int(x)
}

// field takes a field.
func (v *valueReader) field(m *api.Message, name string) {
	const noLimit = math.MaxUint64
	switch name {
	case "Access":
		m.Access.Process = v.number(noLimit, 0)
		m.Access.Number = v.number(noLimit, 0)
	case "Round":
		m.Round = v.number(noLimit, 0)
	case "Mode":
		m.Mode = v.number(noLimit, 0)
	case "Config":
		m.Config = take(v, config.Decode)
	case "State":
		for n := v.number(48, api.ErrTooLong); n > 0; n-- {
			m.State = append(m.State, take(v, update.Decode))
		}
	case "HasBase":
		m.HasBase = take(v, wire.Bool)
	case "More":
		m.More = take(v, wire.Bool)
	case "Base":
		if m.HasBase {
			m.Base = take(v, cert.Decode)
		}
	case "Established":
		m.Established = take(v, cert.Decode)
	case "Cert":
		m.Cert = take(v, cert.Decode)
	case "Have":
		for n := v.number(100, api.ErrTooLong); n > 0; n-- {
			author := v.number(noLimit, 0)
			m.Have = append(m.Have, api.Entry{Author: author, Count: v.number(noLimit, 0)})
		}
	}
}

// decoded is P14.5: what Decode returns for b.
func decoded(b []byte) (api.Message, int, api.Errno) {
	v := valueReader{rest: b}
	var m api.Message
	m.Kind = v.number(8, api.ErrKind)
	if v.e == api.OK && m.Kind == 0 {
		v.e = api.ErrKind
	}
	m.From = v.number(math.MaxUint64, 0)
	m.To = v.number(math.MaxUint64, 0)
	for _, name := range uses(m.Kind) {
		v.field(&m, name)
	}
	if v.e == api.OK {
		v.e = firstError(m)
	}
	if v.e != api.OK {
		return api.Message{}, 0, v.e
	}
	return m, len(b) - len(v.rest), api.OK
}

// checkDecode checks what Decode returns for b, and that it accepts nothing but the encoding of what it returns.
func checkDecode(t *testing.T, b []byte) {
	t.Helper()
	m, n, e := Decode(b)
	want, wantN, wantE := decoded(b)
	if !same(m, want) || n != wantN || e != wantE {
		t.Errorf("Decode(%v) = %v, %d, %v, want %v, %d, %v", b, m, n, e, want, wantN, wantE)
	}
	if e == api.OK && (!bytes.Equal(Append(nil, m), b[:n]) || Validate(m) != api.OK) {
		t.Errorf("Decode(%v) = %v, %d: it consumes another encoding, or the result is not valid", b, m, n)
	}
}

// Each value of an encoding is replaced by values at which a decision changes, and by bytes that are no value.
func TestDecodeOfChangedEncodings(t *testing.T) {
	bad := [][]byte{
		nil, {128}, {128, 0}, bytes.Repeat([]byte{255}, 12), {0, 0}, cert.Append(nil, second), config.Append(nil, second.To), config.Append(nil, api.Config{sample(201, 2)}),
		cert.Append(nil, api.Certificate{From: first.To}), update.Append(nil, effects(101, 2)), update.Append(nil, marking(104, 3)), update.Append(nil, api.Update{Client: 107}),
	}
	for _, n := range []uint64{0, 1, 2, 3, 4, 5, 6, 7, 8, 9, 12, 13, 48, 49, 100, 101, 106, 107, 128, 203, 204, 1000000, 1000001, 1<<31 - 1, 1 << 31, 1 << 32, 1<<32 + 1, 1 << 63, math.MaxUint64} {
		bad = append(bad, numbers(n))
	}
	for _, m := range samples() {
		list := parts(m)
		for i := range list {
			before, behind := slices.Concat(list[:i]...), slices.Concat(list[i+1:]...)
			for _, x := range bad {
				checkDecode(t, slices.Concat(before, x, behind))
				checkDecode(t, slices.Concat(before, x))
			}
			checkDecode(t, slices.Concat(before, list[i], list[i], behind))
		}
	}
}

func TestDecodeOfTwoChangedBytes(t *testing.T) {
	r := rand.New(rand.NewSource(145))
	for _, m := range samples() {
		for range 500 {
			b := encoded(m)
			for range 2 {
				b[r.Intn(len(b))] = byte([]int{0, 1, 2, 3, 4, 5, 6, 7, 8, 9, 12, 13, 101, 107, 128, 129, 255}[r.Intn(17)])
			}
			checkDecode(t, b)
		}
	}
}

// Decode reports what Validate reports, when the message has been read.
func TestDecodeOfMessagesThatAreNotValid(t *testing.T) {
	sets := changes()
	for _, m := range append(samples(), large()...) {
		for _, x := range sets {
			b := encoded(with(m, x))
			checkDecode(t, b)
			checkDecode(t, append(b, b...))
			checkDecode(t, b[:len(b)-1])
		}
	}
}

func TestPrefixesOfEncodingsAreTruncated(t *testing.T) {
	for _, m := range append(samples(), large()...) {
		b := encoded(m)
		for i := range b {
			if m, n, e := Decode(b[:i]); !none(m) || n != 0 || e != api.ErrTruncated {
				t.Errorf("Decode(%v) = %v, %d, %v", b[:i], m, n, e)
			}
		}
	}
}

// P14.6

func TestEncodingsDecode(t *testing.T) {
	list := append(samples(), large()...)
	for _, m := range samples() {
		for _, x := range changes() {
			if changed := with(m, x); firstError(changed) == api.OK && len(changed.Have) <= 100 && (len(changed.Have) == 0 || changed.Have[len(changed.Have)-1].Author < 1<<31) {
				list = append(list, changed)
			}
		}
	}
	if len(list) < 500 {
		t.Errorf("%d messages", len(list))
	}
	for _, m := range list {
		b := Append(nil, m)
		for _, tail := range []string{"", "\x00", "\x01", "\x80", "\xff\xff\xff\xff\xff\xff\xff\xff\xff\xff\xff", string(b)} {
			if got, n, e := Decode(append(bytes.Clone(b), tail...)); !same(got, m) || !Equal(got, m) || n != len(b) || e != api.OK {
				t.Errorf("Decode of the encoding of %v = %v, %d, %v", m, got, n, e)
			}
		}
	}
}

// A valid vector may be too long for a decoder, or have authors that are too great for it.
func TestVectorsThatDoNotDecode(t *testing.T) {
	for _, x := range []struct {
		have api.Vector
		e    api.Errno
	}{
		{entries(100), api.OK}, {entries(101), api.ErrTooLong}, {entries(1000), api.ErrTooLong}, {api.Vector{{Author: 1<<31 - 1, Count: 1000000}}, api.OK},
		{api.Vector{{Author: 1, Count: 1}, {Author: 1 << 31, Count: 1}}, api.ErrRange}, {api.Vector{{Author: math.MaxInt, Count: 1}}, api.ErrRange},
	} {
		m := api.Message{Kind: api.MsgFetch, From: 1, To: 2, Have: x.have}
		if e := Validate(m); e != api.OK {
			t.Errorf("Validate with a vector of %d entries = %v", len(x.have), e)
		}
		b := Append(nil, m)
		if !bytes.Equal(b, encoded(m)) {
			t.Errorf("Append with a vector of %d entries = %v", len(x.have), b)
		}
		if _, _, e := Decode(b); e != x.e {
			t.Errorf("Decode with a vector of %d entries = %v, want %v", len(x.have), e, x.e)
		}
	}
}

// R1

// callAll calls all functions with a and b.
func callAll(a, b api.Message) {
	Validate(a)
	Equal(a, b)
	Decode(Append(Append(nil, a), b))
}

// anything fills v with anything.
func anything(r *rand.Rand, v reflect.Value) {
	switch v.Kind() {
	case reflect.Struct:
		for i := range v.NumField() {
			anything(r, v.Field(i))
		}
	case reflect.Slice:
		if n := r.Intn(12); n < 6 {
			v.Set(reflect.MakeSlice(v.Type(), n, n))
		}
		for i := range v.Len() {
			anything(r, v.Index(i))
		}
	case reflect.Bool:
		v.SetBool(r.Intn(2) == 0)
	case reflect.String:
		v.SetString([]string{"", "x", "\xff\x00", strings.Repeat("é", 40)}[r.Intn(4)])
	default:
		v.SetInt([]int64{math.MinInt64, -1, 0, 1, 2, 3, 5, 8, 101, 201, 1 << 31, math.MaxInt64}[r.Intn(12)])
	}
}

func TestAnyMessages(t *testing.T) {
	r := rand.New(rand.NewSource(14))
	list := make([]api.Message, 1000)
	for i := range list {
		anything(r, reflect.ValueOf(&list[i]).Elem())
		if r.Intn(4) > 0 {
			list[i].Kind, list[i].From, list[i].To = 1+r.Intn(8), 1, 101
		}
	}
	for i, m := range list {
		n := list[(i+1)%len(list)]
		callAll(m, n)
		if e := Validate(m); e != firstError(m) {
			t.Errorf("Validate(%v) = %v, want %v", m, e, firstError(m))
		}
		if Equal(m, n) != same(m, n) || !Equal(m, copied(m)) {
			t.Errorf("Equal of %v and %v", m, n)
		}
	}
}

func TestAnyBytes(t *testing.T) {
	r := rand.New(rand.NewSource(141))
	for range 20000 {
		b := make([]byte, r.Intn(40))
		for i := range b {
			b[i] = byte([]int{0, 0, 0, 1, 1, 2, 3, 4, 5, 101, 201, 128, 255}[r.Intn(13)])
		}
		if len(b) > 2 {
			b[0], b[1], b[2] = byte(1+r.Intn(8)), 1, 101
		}
		checkDecode(t, b)
	}
}

// R2

// room is what is free behind each list of roomy, so that an append could write into it.
const room = 3

// roomyValue returns a deep copy of v with free elements behind each list.
func roomyValue(v reflect.Value, free int) reflect.Value {
	out := reflect.New(v.Type()).Elem()
	out.Set(v)
	switch v.Kind() {
	case reflect.Struct:
		for i := range v.NumField() {
			out.Field(i).Set(roomyValue(v.Field(i), free))
		}
	case reflect.Slice:
		list := reflect.MakeSlice(v.Type(), v.Len(), v.Len()+free)
		for i := range v.Len() {
			list.Index(i).Set(roomyValue(v.Index(i), free))
		}
		out.Set(list)
	}
	return out
}

func roomy[V any](v V) V { return roomyValue(reflect.ValueOf(v), room).Interface().(V) }

// whole returns v with the elements behind each list.
func whole(v reflect.Value) reflect.Value {
	if v.Kind() == reflect.Slice {
		v = v.Slice(0, v.Cap())
	}
	v = roomyValue(v, 0)
	switch v.Kind() {
	case reflect.Struct:
		for i := range v.NumField() {
			v.Field(i).Set(whole(v.Field(i)))
		}
	case reflect.Slice:
		for i := range v.Len() {
			v.Index(i).Set(whole(v.Index(i)))
		}
	}
	return v
}

// unchanged reports whether an argument that roomy has made of v is as it was, with what is behind its lists.
func unchanged[V any](argument, v V) bool {
	return sameValue(whole(reflect.ValueOf(argument)), whole(reflect.ValueOf(roomy(v))))
}

// visit calls f for each list in v, the inner ones first.
func visit(v reflect.Value, f func(list reflect.Value)) {
	switch v.Kind() {
	case reflect.Struct:
		for i := range v.NumField() {
			visit(v.Field(i), f)
		}
	case reflect.Slice:
		for i := range v.Len() {
			visit(v.Index(i), f)
		}
		f(v.Slice(0, v.Cap()))
	}
}

// overwrite clears everything that can be reached from m.
func overwrite(m api.Message) {
	visit(reflect.ValueOf(m), func(list reflect.Value) { list.Clear() })
}

func TestArgumentsAreKept(t *testing.T) {
	list := append(samples(), large()...)
	for _, m := range samples()[:6] {
		for _, x := range changes() {
			list = append(list, with(m, x))
		}
	}
	for i, m := range list {
		n := list[(7*i+1)%len(list)]
		a, b, text, encoding := roomy(m), roomy(n), roomy([]byte("before")), roomy(encoded(m))
		callAll(a, b)
		Append(text, a)
		Decode(encoding)
		if !unchanged(a, m) || !unchanged(b, n) {
			t.Fatalf("arguments have become %v, %v", a, b)
		}
		if !unchanged(text, []byte("before")) || !unchanged(encoding, encoded(m)) {
			t.Fatalf("arguments have become %v, %v", text, encoding)
		}
	}
}

func TestAppendReturnsNewMemory(t *testing.T) {
	for _, m := range append(samples(), large()...) {
		for _, text := range []string{"", "before"} {
			b, c := roomy([]byte(text)), roomy(m)
			first, second := Append(b, c), Append(b, c)
			want := append([]byte(text), encoded(m)...)
			overwrite(c)
			clear(b[:cap(b)])
			if !bytes.Equal(first, want) {
				t.Fatalf("the result has changed with an argument: %v", first)
			}
			clear(first[:cap(first)])
			if !bytes.Equal(second, want) {
				t.Fatalf("a result has changed with another one: %v", second)
			}
		}
	}
}

func TestDecodeReturnsNewMemory(t *testing.T) {
	for _, m := range append(samples(), large()...) {
		b := encoded(m)
		first, _, _ := Decode(b)
		second, _, _ := Decode(b)
		clear(b)
		if !same(first, m) {
			t.Fatalf("the result has changed with the argument: %v", first)
		}
		overwrite(first)
		if !same(second, m) {
			t.Fatalf("a result has changed with another one: %v", second)
		}
	}
}

// No two lists of a result share memory.
func TestPartsShareNoMemory(t *testing.T) {
	for _, m := range append(samples(), large()...) {
		got, _, _ := Decode(encoded(m))
		type span struct{ from, to uintptr }
		var spans []span
		visit(reflect.ValueOf(got), func(list reflect.Value) {
			if list.Len() > 0 {
				spans = append(spans, span{list.Pointer(), list.Pointer() + uintptr(list.Len())*list.Type().Elem().Size()})
			}
		})
		slices.SortFunc(spans, func(a, b span) int {
			if a.from < b.from {
				return -1
			}
			return 1
		})
		for i := 1; i < len(spans); i++ {
			if spans[i].from < spans[i-1].to {
				t.Errorf("two lists of %v share memory", got)
			}
		}
	}
}

// R5

func TestNilIsEmpty(t *testing.T) {
	empty := api.Message{
		Cert: api.Certificate{From: api.Config{}, To: api.Config{}}, Base: api.Certificate{From: api.Config{}, To: api.Config{}},
		Established: api.Certificate{From: api.Config{}, To: api.Config{}}, Config: api.Config{}, State: api.State{}, Have: api.Vector{},
	}
	for _, m := range samples() {
		n := m
		v := reflect.ValueOf(&n).Elem()
		for i := range v.NumField() {
			if v.Field(i).IsZero() {
				v.Field(i).Set(reflect.ValueOf(empty).Field(i))
			}
		}
		if !Equal(m, n) || !Equal(n, m) || Validate(n) != api.OK || !bytes.Equal(Append(nil, m), Append([]byte{}, n)) {
			t.Errorf("%v with empty lists instead of nil: Equal, Validate or Append", m)
		}
	}
	if !Equal(empty, api.Message{}) || !Equal(api.Message{}, empty) {
		t.Error("Equal of empty lists and nil")
	}
	for _, b := range [][]byte{nil, {}} {
		if m, n, e := Decode(b); !none(m) || n != 0 || e != api.ErrTruncated {
			t.Errorf("Decode of nothing = %v, %d, %v", m, n, e)
		}
	}
}

// R9

func TestLongArguments(t *testing.T) {
	fetch := api.Message{Kind: api.MsgFetch, From: 1, To: 2, Cert: last, Have: entries(1 << 20)}
	other := copied(fetch)
	if e := Validate(fetch); e != api.OK || !Equal(fetch, other) || !bytes.Equal(Append(nil, fetch), encoded(fetch)) {
		t.Errorf("Validate, Equal or Append of a vector of %d entries", len(fetch.Have))
	}
	other.Have[len(other.Have)-1].Count++
	if Equal(fetch, other) {
		t.Error("Equal of vectors whose last entries differ")
	}
	long := make(api.Config, 1<<16)
	for i := range long {
		long[i] = api.Proposal{Admin: i / 1000, Number: i % 1000, Changes: sample(201, 1).Changes}
	}
	many := make(api.State, 1<<16)
	for i := range many {
		many[i] = marking(i/1000, i%1000)
	}
	for kind := range 10 {
		m := api.Message{Kind: kind, From: 1, To: 2, Access: api.AccessID{Process: 101, Number: 1}, Round: 1, Mode: 2, Config: long, State: many}
		m.Cert, m.Base, m.Established = api.Certificate{From: long, To: long}, api.Certificate{To: long}, api.Certificate{From: long}
		callAll(m, m)
		m.Config, m.Cert, m.Base, m.Established = nil, initial, initial, initial
		callAll(m, m)
	}
}

func TestManyBytesAroundAnEncoding(t *testing.T) {
	for _, m := range large() {
		before := bytes.Repeat([]byte("x"), 1<<24-len(encoded(m)))
		b := Append(before, m)
		if !bytes.Equal(b[:len(before)], before) || !bytes.Equal(b[len(before):], encoded(m)) {
			t.Errorf("Append behind many bytes")
		}
		after := append(encoded(m), before...)
		if got, n, e := Decode(after); !same(got, m) || n != len(after)-len(before) || e != api.OK {
			t.Errorf("Decode before many bytes = %v, %d, %v", got, n, e)
		}
	}
}

func FuzzDecode(f *testing.F) {
	for _, m := range append(samples(), large()...) {
		f.Add(encoded(m))
	}
	for _, m := range samples() {
		for _, x := range changes() {
			if changed := with(m, x); len(encoded(changed)) < 200 && firstError(changed) != api.OK {
				f.Add(encoded(changed))
			}
		}
	}
	f.Fuzz(func(t *testing.T, b []byte) {
		before := bytes.Clone(b)
		checkDecode(t, b)
		if !bytes.Equal(b, before) {
			t.Errorf("Decode has changed %v to %v", before, b)
		}
	})
}
