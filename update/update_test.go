package update

import (
	"bytes"
	"encoding/binary"
	"math"
	"math/rand"
	"reflect"
	"slices"
	"strings"
	"testing"

	"elasticstore/api"
	"elasticstore/wire"
)

const (
	longest = "sixteen bytes ok"                 // as a name
	text32  = "a text of thirty-two bytes, fits" // the longest text
)

func effect(kind int, n int64, s string) api.Effect {
	return api.Effect{Kind: kind, Object: "o", Field: "f", N: n, S: s}
}

func write(n int64, s string) api.Effect { return effect(api.EffectWrite, n, s) }

func raise(n int64) api.Effect { return effect(api.EffectRaise, n, "") }

func add(n int64) api.Effect { return effect(api.EffectAdd, n, "") }

func insert(s string) api.Effect { return effect(api.EffectInsert, 0, s) }

func mark() api.Effect { return effect(api.EffectMark, 0, "") }

// named returns e with other names.
func named(object, field string, e api.Effect) api.Effect {
	e.Object, e.Field = object, field
	return e
}

func of(client, seq, tag int, effects ...api.Effect) api.Update {
	return api.Update{Client: client, Seq: seq, Tag: tag, Effects: effects}
}

// writes returns valid effects that do not commute, with fields at and between their bounds.
func writes() []api.Effect {
	return []api.Effect{
		write(0, ""), write(-5, "five"), write(math.MinInt64, text32), write(math.MaxInt64, "\xff\x00"), named(longest, longest, write(1, "x")),
	}
}

// commuting returns valid effects of all other kinds, with fields at and between their bounds.
func commuting() []api.Effect {
	return []api.Effect{
		raise(0), raise(math.MinInt64), raise(math.MaxInt64), add(0), add(-1000000), add(1000000), add(300), insert(""), insert(text32), insert("\xff"), mark(),
		named(longest, longest, mark()), named("\xff", "\x00", raise(7)), named("é€😀", " ", insert("é")), named("box", longest, add(-64)),
	}
}

// samples returns valid updates of all clients and sequence numbers, with 1 to 4 effects, from a fixed sequence.
func samples() []api.Update {
	r := rand.New(rand.NewSource(11))
	var out []api.Update
	for client := api.FirstClient; client < api.FirstClient+api.MaxClients; client++ {
		for seq := 1; seq <= api.MaxUpdates; seq++ {
			w := writes()[r.Intn(len(writes()))]
			out = append(out, of(client, seq, []int{0, 1, 2, 127, 128, 1000}[r.Intn(6)], w))
			u := of(client, seq, 0)
			for range 1 + r.Intn(api.MaxEffects) {
				u.Effects = append(u.Effects, commuting()[r.Intn(len(commuting()))])
			}
			out = append(out, u)
		}
	}
	for _, e := range commuting() {
		out = append(out, of(103, 4, 0, e))
	}
	for _, e := range writes() {
		out = append(out, of(104, 5, 6, e))
	}
	return out
}

// malformed returns updates that are not valid.
func malformed() []api.Update {
	var out []api.Update
	for _, u := range []api.Update{of(101, 1, 0, add(1)), of(106, 8, 1000, write(1, "x"))} {
		for _, field := range numberFields(&u) {
			before := *field
			for _, n := range []int{math.MinInt, math.MinInt32, -1, 1001, math.MaxInt32, 1 << 31, 1<<32 + 1, 1<<32 + 101, math.MaxInt} {
				*field = n
				out = append(out, copied(u))
			}
			*field = before
		}
	}
	long := strings.Repeat("x", 1000)
	for _, e := range []api.Effect{
		named("", "f", mark()), named("o", "", mark()), named("", "", mark()), named(long, "f", mark()), named("o", long, mark()), insert(long),
		add(math.MinInt64), add(math.MaxInt64), effect(api.EffectInsert, 1, "x"), effect(api.EffectMark, math.MinInt64, ""), effect(api.EffectMark, 0, "x"), {},
	} {
		out = append(out, of(101, 1, 0, e), of(101, 1, 0, mark(), e))
	}
	return append(out, api.Update{}, of(101, 1, 0), of(101, 1, 1, mark()), of(101, 1, 0, write(1, ""), write(1, "")), of(101, 1, 0, mark(), write(1, "")),
		of(101, 1, 0, mark(), mark(), mark(), mark(), mark()), of(0, 0, 0, make([]api.Effect, 1000)...))
}

// numberFields returns pointers to all numbers of u but those of type int64, in the order of their encoding and without
// the number of effects.
func numberFields(u *api.Update) []*int {
	out := []*int{&u.Client, &u.Seq, &u.Tag}
	for i := range u.Effects {
		out = append(out, &u.Effects[i].Kind)
	}
	return out
}

func copied(u api.Update) api.Update {
	u.Effects = slices.Clone(u.Effects)
	return u
}

// same reports whether u and v are equal, by reflection instead of Equal.
func same(u, v api.Update) bool {
	return u.Client == v.Client && u.Seq == v.Seq && u.Tag == v.Tag && (len(u.Effects) == 0 && len(v.Effects) == 0 || reflect.DeepEqual(u.Effects, v.Effects))
}

// P11.1

func TestValidateEffect(t *testing.T) {
	for _, e := range append(writes(), commuting()...) {
		if errno := ValidateEffect(e); errno != api.OK {
			t.Errorf("ValidateEffect(%v) = %v", e, errno)
		}
	}
	longName, longText := longest+"x", text32+"x"
	for _, x := range []struct {
		name string
		e    api.Effect
		want api.Errno
	}{
		{"the zero value", api.Effect{}, api.ErrKind},
		{"a kind too small", effect(-1, 0, ""), api.ErrKind},
		{"a kind too great", effect(6, 0, ""), api.ErrKind},
		{"no object", named("", "f", mark()), api.ErrInvalid},
		{"no field", named("o", "", mark()), api.ErrInvalid},
		{"a long object", named(longName, "f", mark()), api.ErrTooLong},
		{"a long field", named("o", longName, mark()), api.ErrTooLong},
		{"a long text to write", write(0, longText), api.ErrTooLong},
		{"a long text to insert", insert(longText), api.ErrTooLong},
		{"too much to add", add(1000001), api.ErrRange},
		{"too little to add", add(-1000001), api.ErrRange},
		{"the least number to add", add(math.MinInt64), api.ErrRange},
		{"the greatest number to add", add(math.MaxInt64), api.ErrRange},
		{"an insert with a number", effect(api.EffectInsert, 1, "x"), api.ErrRange},
		{"an insert with a number below 0", effect(api.EffectInsert, -1, "x"), api.ErrRange},
		{"a mark with a number", effect(api.EffectMark, 1, ""), api.ErrRange},
		{"a mark with a number below 0", effect(api.EffectMark, -1, ""), api.ErrRange},
		{"a raise with a text", effect(api.EffectRaise, 1, "x"), api.ErrInvalid},
		{"an add with a text", effect(api.EffectAdd, 1, "x"), api.ErrInvalid},
		{"a mark with a text", effect(api.EffectMark, 0, "\x00"), api.ErrInvalid},

		{"the kind before no names", named("", "", effect(6, 0, "")), api.ErrKind},
		{"the kind before all others", named("", longName, effect(0, 1, longText)), api.ErrKind},
		{"no object before a long field", named("", longName, mark()), api.ErrInvalid},
		{"no field before a long object", named(longName, "", mark()), api.ErrInvalid},
		{"no field before a long text", named("o", "", insert(longText)), api.ErrInvalid},
		{"no object before a number out of range", named("", "f", add(1000001)), api.ErrInvalid},
		{"a long object before a number out of range", named(longName, "f", add(1000001)), api.ErrTooLong},
		{"a long text before a number out of range", effect(api.EffectInsert, 1, longText), api.ErrTooLong},
		{"a long text before a text that is not empty", effect(api.EffectMark, 0, longText), api.ErrTooLong},
		{"a number out of range before a text that is not empty", effect(api.EffectMark, 1, "x"), api.ErrRange},
	} {
		if errno := ValidateEffect(x.e); errno != x.want {
			t.Errorf("%s: ValidateEffect(%v) = %v, want %v", x.name, x.e, errno, x.want)
		}
	}
}

// effectError is the list of conditions of P11.1.
func effectError(e api.Effect) api.Errno {
	k := e.Kind
	switch {
	case k != 1 && k != 2 && k != 3 && k != 4 && k != 5:
		return api.ErrKind
	case e.Object == "" || e.Field == "":
		return api.ErrInvalid
	case len(e.Object) > 16 || len(e.Field) > 16 || len(e.S) > 32:
		return api.ErrTooLong
	case k == 3 && (e.N < -1000000 || e.N > 1000000) || (k == 4 || k == 5) && e.N != 0:
		return api.ErrRange
	case (k == 2 || k == 3 || k == 5) && e.S != "":
		return api.ErrInvalid
	}
	return api.OK
}

func TestValidateEffectReturnsFirstError(t *testing.T) {
	names := []string{"", "a", longest, longest + "x"}
	texts := []string{"", "x", "\xff", text32, text32 + "x"}
	for _, kind := range []int{math.MinInt, -1, 0, 1, 2, 3, 4, 5, 6, 1<<32 + 1, math.MaxInt} {
		for _, n := range []int64{math.MinInt64, -1000001, -1000000, -1, 0, 1, 1000000, 1000001, math.MaxInt64} {
			for _, s := range texts {
				for _, object := range names {
					for _, field := range names {
						e := named(object, field, effect(kind, n, s))
						if errno, want := ValidateEffect(e), effectError(e); errno != want {
							t.Errorf("ValidateEffect(%v) = %v, want %v", e, errno, want)
						}
					}
				}
			}
		}
	}
}

// The limit of a name is one of bytes, whatever characters they are and whether they are characters at all.
func TestNamesOfArbitraryBytes(t *testing.T) {
	var names []string
	for _, piece := range []string{"x", "\x00", "é", "€", "😀", "\uFFFD", "\xff", "\x80", "\xe2\x82", "\xf0\x9f\x98", "\xed\xa0\x80", "x\xe2\x82", "\xc3é"} {
		for size := range 24 {
			padding := strings.Repeat("p", size)
			whole := strings.Repeat(piece, size)
			names = append(names, whole, padding+piece, piece+padding, whole+padding, padding+piece+piece, whole[:min(size, len(whole))])
		}
	}
	for _, name := range names {
		want := api.OK
		switch {
		case len(name) == 0:
			want = api.ErrInvalid
		case len(name) > api.MaxName:
			want = api.ErrTooLong
		}
		if e := ValidateEffect(named(name, "f", mark())); e != want {
			t.Errorf("an object of the %d bytes %q: %v, want %v", len(name), name, e, want)
		}
		if e := ValidateEffect(named("o", name, mark())); e != want {
			t.Errorf("a field of the %d bytes %q: %v, want %v", len(name), name, e, want)
		}
	}
}

func TestTextsOfArbitraryBytes(t *testing.T) {
	for _, piece := range []string{"é", "€", "😀", "\xff", "\xe2\x82"} {
		for size := range 40 {
			s := (strings.Repeat("p", size%4) + strings.Repeat(piece, 40))[:size]
			want := api.OK
			if size > api.MaxText {
				want = api.ErrTooLong
			}
			if e := ValidateEffect(insert(s)); e != want {
				t.Errorf("a text of the %d bytes %q: %v, want %v", size, s, e, want)
			}
		}
	}
}

// P11.2

func TestValidate(t *testing.T) {
	four := []api.Effect{add(1), mark(), raise(3), insert("x")}
	five := append(slices.Clone(four), add(1))
	for _, u := range append(samples(), of(101, 1, 0, add(1)), of(106, 8, 0, four...), of(101, 1, 0, write(1, "")), of(101, 1, 1000, write(1, "")), of(101, 1, 0, mark(), mark())) {
		if e := Validate(u); e != api.OK {
			t.Errorf("Validate(%v) = %v", u, e)
		}
	}
	for _, x := range []struct {
		name string
		u    api.Update
		e    api.Errno
	}{
		{"the zero value", api.Update{}, api.ErrRange},
		{"client too small", of(100, 1, 0, mark()), api.ErrRange},
		{"client too great", of(107, 1, 0, mark()), api.ErrRange},
		{"a server as client", of(1, 1, 0, mark()), api.ErrRange},
		{"an administrator as client", of(201, 1, 0, mark()), api.ErrRange},
		{"seq 0", of(101, 0, 0, mark()), api.ErrRange},
		{"seq -1", of(101, -1, 0, mark()), api.ErrRange},
		{"seq 9", of(101, 9, 0, mark()), api.ErrRange},
		{"tag -1", of(101, 1, -1, write(1, "")), api.ErrRange},
		{"tag 1001", of(101, 1, 1001, write(1, "")), api.ErrRange},
		{"no effects", of(101, 1, 0), api.ErrInvalid},
		{"an empty list of effects", api.Update{Client: 101, Seq: 1, Effects: []api.Effect{}}, api.ErrInvalid},
		{"five effects", of(101, 1, 0, five...), api.ErrTooLong},
		{"an unknown kind", of(101, 1, 0, api.Effect{}), api.ErrKind},
		{"a bad effect at the end", of(101, 1, 0, mark(), add(1), insert("x"), add(1000001)), api.ErrRange},
		{"two writes", of(101, 1, 0, write(1, ""), write(1, "")), api.ErrInvalid},
		{"a write and an add", of(101, 1, 0, write(1, ""), add(1)), api.ErrInvalid},
		{"an add and a write", of(101, 1, 0, add(1), write(1, "")), api.ErrInvalid},
		{"a write at the end with a tag", of(101, 1, 5, mark(), add(1), insert("x"), write(1, "")), api.ErrInvalid},
		{"a tag without a write", of(101, 1, 1, mark()), api.ErrInvalid},
		{"the greatest tag without a write", of(101, 1, 1000, add(1), mark()), api.ErrInvalid},

		{"client before no effects", of(107, 1, 0), api.ErrRange},
		{"seq before five effects", of(101, 9, 0, five...), api.ErrRange},
		{"tag before no effects", of(101, 1, 1001), api.ErrRange},
		{"tag before a bad effect", of(101, 1, -1, api.Effect{}), api.ErrRange},
		{"no effects before a tag without a write", of(101, 1, 5), api.ErrInvalid},
		{"five effects before a bad effect", of(101, 1, 0, make([]api.Effect, 5)...), api.ErrTooLong},
		{"five effects before two writes", of(101, 1, 0, append(four[:3:3], write(1, ""), write(1, ""))...), api.ErrTooLong},
		{"a bad effect before a tag without a write", of(101, 1, 5, api.Effect{}), api.ErrKind},
		{"a bad effect before a write and another one", of(101, 1, 0, write(1, ""), add(1000001)), api.ErrRange},
		{"a bad write before a write and another one", of(101, 1, 0, add(1), named("o", longest+"x", write(1, ""))), api.ErrTooLong},
		{"the first of two bad effects", of(101, 1, 0, add(1000001), api.Effect{}), api.ErrRange},
		{"the first of two bad effects, the other way", of(101, 1, 0, api.Effect{}, add(1000001)), api.ErrKind},
	} {
		if e := Validate(x.u); e != x.e {
			t.Errorf("%s: Validate(%v) = %v, want %v", x.name, x.u, e, x.e)
		}
	}
}

// countWrites returns the number of effects of kind EffectWrite.
func countWrites(u api.Update) int {
	n := 0
	for _, e := range u.Effects {
		if e.Kind == 1 {
			n++
		}
	}
	return n
}

// firstError is the list of conditions of P11.2.
func firstError(u api.Update) api.Errno {
	if u.Client < 101 || u.Client > 106 || u.Seq < 1 || u.Seq > 8 || u.Tag < 0 || u.Tag > 1000 {
		return api.ErrRange
	}
	if len(u.Effects) == 0 {
		return api.ErrInvalid
	}
	if len(u.Effects) > 4 {
		return api.ErrTooLong
	}
	for _, e := range u.Effects {
		if errno := effectError(e); errno != api.OK {
			return errno
		}
	}
	if n := countWrites(u); n > 0 && len(u.Effects) > 1 || n == 0 && u.Tag != 0 {
		return api.ErrInvalid
	}
	return api.OK
}

func TestValidateReturnsFirstError(t *testing.T) {
	for _, u := range malformed() {
		if e := Validate(u); e == api.OK || e != firstError(u) {
			t.Errorf("Validate(%v) = %v, want %v", u, e, firstError(u))
		}
	}
	pool := append(append(writes(), commuting()...), api.Effect{}, add(1000001), insert(text32+"x"), named("", "f", write(1, "")), effect(api.EffectMark, 0, "x"))
	r := rand.New(rand.NewSource(112))
	for range 100000 {
		u := of([]int{100, 101, 102, 105, 106, 107}[r.Intn(6)], r.Intn(10), []int{-1, 0, 0, 0, 1, 1000, 1001}[r.Intn(7)])
		for range r.Intn(6) {
			u.Effects = append(u.Effects, pool[r.Intn(len(pool))])
		}
		if e := Validate(u); e != firstError(u) {
			t.Errorf("Validate(%v) = %v, want %v", u, e, firstError(u))
		}
	}
}

// P11.3

func TestCommutes(t *testing.T) {
	for _, x := range []struct {
		u    api.Update
		want bool
	}{
		{of(101, 1, 0, write(1, "x")), false},
		{of(101, 1, 7, write(1, "x")), false},
		{of(101, 1, 0, add(1)), true},
		{of(101, 1, 0, raise(1), add(1), insert("x"), mark()), true},
		{of(101, 1, 0, write(1, ""), mark()), false},
		{of(101, 1, 0, mark(), add(1), write(1, "")), false},
		{of(101, 1, 7, mark()), true},
		{of(101, 1, 0, api.Effect{}, effect(6, 0, "")), true},
		{api.Update{}, true},
		{api.Update{Tag: 7}, true},
	} {
		if got := Commutes(x.u); got != x.want {
			t.Errorf("Commutes(%v) = %v", x.u, got)
		}
	}
	for _, u := range append(samples(), malformed()...) {
		if got := Commutes(u); got != (countWrites(u) == 0) {
			t.Errorf("Commutes(%v) = %v", u, got)
		}
	}
}

// order is the number that P11.3 says for two lists of numbers.
func order(a, b []int) int {
	for i := range a {
		if a[i] < b[i] {
			return -1
		}
		if a[i] > b[i] {
			return 1
		}
	}
	return 0
}

func TestCompareExamples(t *testing.T) {
	for _, x := range []struct {
		a, b api.Update
		want int
	}{
		{of(101, 1, 0), of(101, 1, 0), 0},
		{of(101, 1, 0, mark()), of(101, 1, 9, write(1, ""), add(1)), 0},
		{of(101, 1, 9, write(1, "")), of(101, 2, 0, mark()), -1},
		{of(101, 8, 0), of(102, 1, 0), -1},
		{of(106, 1, 0), of(105, 8, 0), 1},
		{of(103, 8, 0), of(103, 7, 5), 1},
		{of(math.MinInt, 0, 0), of(math.MaxInt, 0, 0), -1},
		{of(math.MaxInt, 0, 0), of(math.MinInt, 0, 0), 1},
		{of(101, math.MinInt, 0), of(101, math.MaxInt, 0), -1},
		{of(101, math.MaxInt, 0), of(101, math.MinInt, 0), 1},
		{of(0, 1, 0), of(1, 0, 0), -1},
		{api.Update{}, api.Update{}, 0},
	} {
		if got := Compare(x.a, x.b); got != x.want {
			t.Errorf("Compare(%v, %v) = %d, want %d", x.a, x.b, got, x.want)
		}
	}
}

func TestBeforeExamples(t *testing.T) {
	for _, x := range []struct {
		a, b api.Update
		want bool
	}{
		{of(101, 1, 0), of(101, 1, 0), false},
		{of(101, 1, 3, write(1, "")), of(101, 1, 3, write(2, "")), false},
		{of(106, 8, 2), of(101, 1, 3), true},
		{of(101, 1, 3), of(106, 8, 2), false},
		{of(101, 8, 3), of(102, 1, 3), true},
		{of(102, 1, 3), of(101, 8, 3), false},
		{of(101, 1, 3), of(101, 2, 3), true},
		{of(101, 2, 3), of(101, 1, 3), false},
		{of(101, 2, 3), of(101, 1, 4), true},
		{of(1, 1, math.MinInt), of(0, 0, math.MaxInt), true},
		{of(0, 0, math.MaxInt), of(1, 1, math.MinInt), false},
		{api.Update{}, api.Update{}, false},
	} {
		if got := Before(x.a, x.b); got != x.want {
			t.Errorf("Before(%v, %v) = %v", x.a, x.b, got)
		}
	}
}

func TestOrdersAreLexicographic(t *testing.T) {
	list := append(samples(), malformed()...)
	for _, a := range list {
		for _, b := range list {
			if got, want := Compare(a, b), order([]int{a.Client, a.Seq}, []int{b.Client, b.Seq}); got != want {
				t.Errorf("Compare(%v, %v) = %d, want %d", a, b, got, want)
			}
			if got, want := Before(a, b), order([]int{a.Tag, a.Client, a.Seq}, []int{b.Tag, b.Client, b.Seq}) < 0; got != want {
				t.Errorf("Before(%v, %v) = %v", a, b, got)
			}
		}
	}
}

func TestEqualComparesAllFields(t *testing.T) {
	for _, u := range append(samples(), malformed()...) {
		if !Equal(u, copied(u)) {
			t.Errorf("%v is not equal to its copy", u)
		}
		v := copied(u)
		differs := func(what string) {
			t.Helper()
			if Equal(u, v) || Equal(v, u) {
				t.Errorf("%v is equal to %v, which differs in its %s", u, v, what)
			}
			v = copied(u)
		}
		for i := range numberFields(&v) {
			*numberFields(&v)[i] ^= 1
			differs("numbers")
		}
		for i := range v.Effects {
			v.Effects[i].Object += "x"
			differs("object")
			v.Effects[i].Field += "x"
			differs("field")
			v.Effects[i].N ^= 1
			differs("number of an effect")
			v.Effects[i].N ^= math.MinInt64
			differs("number of an effect")
			v.Effects[i].S += "x"
			differs("text")
		}
	}
}

func TestEqualComparesEffectsOneByOne(t *testing.T) {
	u := of(101, 1, 0, add(1), mark(), insert("x"))
	e := u.Effects
	for _, v := range []api.Update{
		of(101, 1, 0), of(101, 1, 0, e[0]), of(101, 1, 0, e[:2]...), of(101, 1, 0, e[1:]...), of(101, 1, 0, e[0], e[1], e[2], e[2]), of(101, 1, 0, e[0], e[1], e[2], api.Effect{}),
		of(101, 1, 0, e[1], e[0], e[2]), of(101, 1, 0, e[0], e[2], e[1]), of(101, 1, 0, e[0], e[0], e[2]), of(101, 1, 0, e[0], e[1], e[1]),
	} {
		if Equal(u, v) || Equal(v, u) {
			t.Errorf("%v is equal to %v", u, v)
		}
	}
	list := append(samples(), malformed()...)
	for _, a := range list {
		for _, b := range list {
			if got := Equal(a, b); got != same(a, b) {
				t.Errorf("Equal(%v, %v) = %v", a, b, got)
			}
		}
	}
}

// P11.4

// numbers encodes numbers one after the other.
func numbers(list ...uint64) []byte {
	var b []byte
	for _, n := range list {
		b = binary.AppendUvarint(b, n)
	}
	return b
}

// text encodes a string.
func text(s string) []byte { return append(numbers(uint64(len(s))), s...) }

func with(parts ...[]byte) []byte { return bytes.Join(parts, nil) }

// parts returns the encodings of all values of u, in their order.
func parts(u api.Update) [][]byte {
	var out [][]byte
	for _, n := range []int{u.Client, u.Seq, u.Tag, len(u.Effects)} {
		out = append(out, numbers(uint64(n)))
	}
	for _, e := range u.Effects {
		out = append(out, numbers(uint64(e.Kind)), text(e.Object), text(e.Field), binary.AppendVarint(nil, e.N), text(e.S))
	}
	return out
}

func TestAppendExample(t *testing.T) {
	u := of(103, 4, 0, named("box", "\xff\x00", insert("in")), named("m", "né", raise(math.MinInt64)), named("c", "d", add(-64)), named("e", "f", add(64)))
	want := []byte{
		103, 4, 0, 4,
		4, 3, 'b', 'o', 'x', 2, 0xff, 0, 0, 2, 'i', 'n',
		2, 1, 'm', 3, 'n', 0xc3, 0xa9, 255, 255, 255, 255, 255, 255, 255, 255, 255, 1, 0,
		3, 1, 'c', 1, 'd', 127, 0,
		3, 1, 'e', 1, 'f', 128, 1, 0,
	}
	if got := Append([]byte("ab"), u); !bytes.Equal(got, append([]byte("ab"), want...)) {
		t.Errorf("Append(ab, %v) = %v, want ab and %v", u, got, want)
	}
	if got := Append(nil, of(106, 8, 1000, write(-1, "x"))); !bytes.Equal(got, []byte{106, 8, 232, 7, 1, 1, 1, 'o', 1, 'f', 1, 1, 'x'}) {
		t.Errorf("Append of a write = %v", got)
	}
}

func TestAppendIsAllValues(t *testing.T) {
	for _, u := range samples() {
		if got, want := Append([]byte{7}, u), append([]byte{7}, with(parts(u)...)...); !bytes.Equal(got, want) {
			t.Errorf("Append(7, %v) = %v, want %v", u, got, want)
		}
	}
}

func TestDecodeErrors(t *testing.T) {
	overlong, endless := []byte{128, 0}, bytes.Repeat([]byte{255}, 10)
	head, tooGreat := numbers(101, 1, 0, 1), numbers(1<<31)
	for _, x := range []struct {
		name string
		b    []byte
		e    api.Errno
	}{
		{"nothing", nil, api.ErrTruncated},
		{"a client that is overlong", overlong, api.ErrInvalid},
		{"a client of more than 64 bits", endless, api.ErrRange},
		{"a client of 2^31", tooGreat, api.ErrRange},
		{"a client of 2^31 - 1 alone", numbers(1<<31 - 1), api.ErrTruncated},
		{"a client of 2^31 - 1", numbers(1<<31-1, 1, 0, 0), api.ErrRange},
		{"a client of 2^32 + 101", with(numbers(1<<32+101, 1, 0, 1), parts(of(0, 0, 0, mark()))[4]), api.ErrRange},
		{"a seq that is overlong", with(numbers(101), overlong), api.ErrInvalid},
		{"a seq of 2^31", with(numbers(101), tooGreat), api.ErrRange},
		{"a tag that is overlong", with(numbers(101, 1), overlong), api.ErrInvalid},
		{"a tag of 2^31", with(numbers(101, 1), tooGreat), api.ErrRange},
		{"no number of effects", numbers(101, 1, 0), api.ErrTruncated},
		{"a number of effects of 5", numbers(101, 1, 0, 5), api.ErrTooLong},
		{"a number of effects of 2^31 - 1", numbers(101, 1, 0, 1<<31-1), api.ErrTooLong},
		{"a number of effects of 2^31", numbers(101, 1, 0, 1<<31), api.ErrRange},
		{"a number of effects of 2^63", numbers(101, 1, 0, 1<<63), api.ErrRange},
		{"a number of effects that is overlong", with(numbers(101, 1, 0), []byte{133, 0}), api.ErrInvalid},
		{"a number of effects of 4 alone", numbers(101, 1, 0, 4), api.ErrTruncated},
		{"no effects", numbers(101, 1, 0, 0), api.ErrInvalid},
		{"a kind of 2^31", with(head, tooGreat), api.ErrRange},
		{"a kind of 2^32 + 5", with(head, numbers(1<<32+5), text("o"), text("f"), numbers(0), text("")), api.ErrRange},
		{"a kind that is overlong", with(head, overlong), api.ErrInvalid},
		{"an unknown kind", with(head, numbers(9), text("o"), text("f"), numbers(0), text("")), api.ErrKind},
		{"an object cut off", with(head, numbers(5, 3), []byte("ob")), api.ErrTruncated},
		{"an object of 2^31 bytes", with(head, numbers(5, 1<<31), text("f"), numbers(0), text("")), api.ErrTruncated},
		{"an object of 2^64 - 1 bytes", with(head, numbers(5, math.MaxUint64), text("f"), numbers(0), text("")), api.ErrTruncated},
		{"a size of an object that is overlong", with(head, numbers(5), []byte{129, 0}, []byte("o")), api.ErrInvalid},
		{"a size of an object of more than 64 bits", with(head, numbers(5), endless), api.ErrRange},
		{"no object", with(head, numbers(5), text(""), text("f"), numbers(0), text("")), api.ErrInvalid},
		{"an object of 17 bytes", with(head, numbers(5), text(longest+"x"), text("f"), numbers(0), text("")), api.ErrTooLong},
		{"a field cut off", with(head, numbers(5), text("o"), numbers(2), []byte("f")), api.ErrTruncated},
		{"no field", with(head, numbers(5), text("o"), text(""), numbers(0), text("")), api.ErrInvalid},
		{"a field of 17 bytes", with(head, numbers(5), text("o"), text(longest+"x"), numbers(0), text("")), api.ErrTooLong},
		{"a number that is overlong", with(head, numbers(5), text("o"), text("f"), overlong), api.ErrInvalid},
		{"a number of more than 64 bits", with(head, numbers(5), text("o"), text("f"), endless), api.ErrRange},
		{"a number out of range", with(head, numbers(3), text("o"), text("f"), numbers(2000002), text("")), api.ErrRange},
		{"a number of a mark", with(head, numbers(5), text("o"), text("f"), numbers(2), text("")), api.ErrRange},
		{"no text", with(head, numbers(5), text("o"), text("f"), numbers(0)), api.ErrTruncated},
		{"a text cut off", with(head, numbers(4), text("o"), text("f"), numbers(0), numbers(2), []byte("x")), api.ErrTruncated},
		{"a text of 33 bytes", with(head, numbers(4), text("o"), text("f"), numbers(0), text(text32+"x")), api.ErrTooLong},
		{"a text of a mark", with(head, numbers(5), text("o"), text("f"), numbers(0), text("x")), api.ErrInvalid},
		{"a tag without a write", with(numbers(101, 1, 1, 1, 5), text("o"), text("f"), numbers(0), text("")), api.ErrInvalid},
		{"a write and a mark", with(parts(of(101, 1, 0, write(1, ""), mark()))...), api.ErrInvalid},
		{"a second effect cut off", with(numbers(101, 1, 0, 2), with(parts(of(101, 1, 0, mark()))[4:]...)), api.ErrTruncated},
		{"a client out of range", with(parts(of(107, 1, 0, mark()))...), api.ErrRange},

		{"the number of effects before the client", numbers(0, 0, 0, 5), api.ErrTooLong},
		{"the end before the client", numbers(0, 0, 0, 1), api.ErrTruncated},
		{"the end before an unknown kind", with(head, numbers(9), text("o"), text("f"), numbers(0)), api.ErrTruncated},
		{"an overlong number before an unknown kind", with(head, numbers(9), text("o"), text("f"), overlong), api.ErrInvalid},
		{"the end before a long object", with(head, numbers(5), text(longest+"x")), api.ErrTruncated},
		{"a kind too great before an overlong size", with(head, tooGreat, overlong), api.ErrRange},
		{"an overlong kind before a size too great", with(head, overlong, endless), api.ErrInvalid},
		{"a tag too great before too many effects", numbers(101, 1, 1<<31, 5), api.ErrRange},
		{"too many effects before a kind that is overlong", with(numbers(101, 1, 0, 5), overlong), api.ErrTooLong},
	} {
		if u, n, e := Decode(x.b); !same(u, api.Update{}) || n != 0 || e != x.e {
			t.Errorf("%s: Decode(%v) = %v, %d, %v, want %v", x.name, x.b, u, n, e, x.e)
		}
	}
}

// valueReader is a model of what Decode reads: it takes the values of an encoding from its beginning, up to the first error.
type valueReader struct {
	rest []byte
	e    api.Errno
}

// take notes what a decoder of package wire has returned, and reports whether there is no error so far.
func (v *valueReader) take(n int, e api.Errno) bool {
	v.e = e
	v.rest = v.rest[n:]
	return e == api.OK
}

func (v *valueReader) number(most uint64, above api.Errno) int {
	if v.e != api.OK {
		return 0
	}
	x, n, e := wire.Uint(v.rest)
	if !v.take(n, e) {
		return 0
	}
	if x >= 1<<31 {
		v.e = api.ErrRange
	} else if x > most {
		v.e = above
	}
	return int(x)
}

func (v *valueReader) signed() int64 {
	if v.e != api.OK {
		return 0
	}
	x, n, e := wire.Int(v.rest)
	v.take(n, e)
	return x
}

func (v *valueReader) text() string {
	if v.e != api.OK {
		return ""
	}
	x, n, e := wire.String(v.rest)
	v.take(n, e)
	return x
}

// decoded is P11.4: what Decode returns for b.
func decoded(b []byte) (api.Update, int, api.Errno) {
	const noLimit = math.MaxUint64
	v := valueReader{rest: b}
	var u api.Update
	u.Client = v.number(noLimit, 0)
	u.Seq = v.number(noLimit, 0)
	u.Tag = v.number(noLimit, 0)
	size := v.number(4, api.ErrTooLong)
	for i := 0; v.e == api.OK && i < size; i++ {
		var e api.Effect
		e.Kind = v.number(noLimit, 0)
		e.Object = v.text()
		e.Field = v.text()
		e.N = v.signed()
		e.S = v.text()
		u.Effects = append(u.Effects, e)
	}
	if v.e == api.OK {
		v.e = firstError(u)
	}
	if v.e != api.OK {
		return api.Update{}, 0, v.e
	}
	return u, len(b) - len(v.rest), api.OK
}

// checkDecode checks what Decode returns for b, and that it accepts nothing but the encoding of what it returns.
func checkDecode(t *testing.T, b []byte) {
	t.Helper()
	u, n, e := Decode(b)
	want, wantN, wantE := decoded(b)
	if !same(u, want) || n != wantN || e != wantE {
		t.Errorf("Decode(%v) = %v, %d, %v, want %v, %d, %v", b, u, n, e, want, wantN, wantE)
	}
	if e == api.OK && !bytes.Equal(Append(nil, u), b[:n]) {
		t.Errorf("Decode(%v) = %v, %d: it consumes another encoding", b, u, n)
	}
}

// Each value of an encoding is replaced by values at which a decision changes, and by bytes that are no value.
func TestDecodeOfChangedEncodings(t *testing.T) {
	bad := [][]byte{
		nil, {128}, {128, 0}, {129, 128, 0}, bytes.Repeat([]byte{128}, 10), append(bytes.Repeat([]byte{128}, 9), 2), bytes.Repeat([]byte{255}, 12),
		text("x"), text(longest), text(longest + "x"), text(text32), text(text32 + "x"),
	}
	for _, n := range []uint64{0, 1, 2, 3, 4, 5, 6, 8, 9, 100, 101, 106, 107, 127, 128, 1000, 1001, 1999999, 2000000, 2000001, 2000002, 1<<31 - 1, 1 << 31, 1 << 32, 1<<32 + 1, 1 << 63, math.MaxUint64} {
		bad = append(bad, numbers(n))
	}
	for _, u := range samples() {
		list := parts(u)
		for i := range list {
			for _, x := range bad {
				before := with(list[:i]...)
				checkDecode(t, with(before, x, with(list[i+1:]...)))
				checkDecode(t, with(before, x))
			}
		}
	}
}

func TestDecodeOfTwoChangedBytes(t *testing.T) {
	r := rand.New(rand.NewSource(114))
	for _, u := range samples() {
		for range 500 {
			b := with(parts(u)...)
			for range 2 {
				b[r.Intn(len(b))] = byte([]int{0, 1, 2, 3, 4, 5, 6, 16, 17, 33, 101, 107, 128, 129, 255}[r.Intn(15)])
			}
			checkDecode(t, b)
		}
	}
}

func TestPrefixesOfEncodingsAreTruncated(t *testing.T) {
	for _, u := range samples() {
		b := Append(nil, u)
		for i := range b {
			if v, n, e := Decode(b[:i]); !same(v, api.Update{}) || n != 0 || e != api.ErrTruncated {
				t.Errorf("Decode(%v) = %v, %d, %v", b[:i], v, n, e)
			}
		}
	}
}

// P11.5

func TestEncodingsDecode(t *testing.T) {
	for _, u := range samples() {
		b := Append(nil, u)
		for _, tail := range []string{"", "\x00", "\x01", "\x80", "\xff\xff\xff\xff\xff\xff\xff\xff\xff\xff\xff", string(b)} {
			if v, n, e := Decode(append(bytes.Clone(b), tail...)); !same(u, v) || n != len(b) || e != api.OK {
				t.Errorf("Decode of the encoding of %v = %v, %d, %v", u, v, n, e)
			}
		}
	}
}

func TestBeforeIsAStrictTotalOrder(t *testing.T) {
	r := rand.New(rand.NewSource(115))
	var list []api.Update
	for client := 101; client <= 106; client++ {
		for seq := 1; seq <= 8; seq++ {
			list = append(list, of(client, seq, r.Intn(12), write(1, "x")))
		}
	}
	for i, a := range list {
		for j, b := range list {
			if wanted := i != j; (Before(a, b) != Before(b, a)) != wanted {
				t.Errorf("Before(%v, %v) and the other way are %v and %v", a, b, Before(a, b), Before(b, a))
			}
			for _, c := range list {
				if Before(a, b) && Before(b, c) && !Before(a, c) {
					t.Errorf("Before of %v, %v, %v is not transitive", a, b, c)
				}
			}
		}
	}
}

// R1

// callAll calls all functions with a and b.
func callAll(a, b api.Update) {
	Validate(a)
	for _, e := range a.Effects {
		ValidateEffect(e)
	}
	Commutes(a)
	Compare(a, b)
	Before(a, b)
	Equal(a, b)
	Decode(Append(Append(nil, a), b))
}

func TestMalformedUpdates(t *testing.T) {
	list := append(malformed(), samples()[:9]...)
	for _, a := range list {
		for _, b := range list {
			callAll(a, b)
		}
	}
}

// R2

// withRoom returns a copy of list with room behind it into which an append could write.
func withRoom[E any](list []E) []E {
	out := make([]E, len(list)+100)
	return out[:copy(out, list)]
}

// whole returns list with the elements behind it that an append could reach.
func whole[E any](list []E) []E { return list[:cap(list)] }

func TestArgumentsAreKept(t *testing.T) {
	for _, u := range append(samples(), malformed()...) {
		v := u
		v.Effects = withRoom(u.Effects)
		b := withRoom([]byte("before"))
		callAll(v, v)
		Append(b, v)
		if !slices.Equal(whole(v.Effects), whole(withRoom(u.Effects))) || !bytes.Equal(whole(b), whole(withRoom([]byte("before")))) {
			t.Fatalf("the arguments have become %v, %v", whole(v.Effects), whole(b))
		}
		encoded := withRoom(with(parts(u)...))
		Decode(encoded)
		if !bytes.Equal(whole(encoded), whole(withRoom(with(parts(u)...)))) {
			t.Fatalf("Decode has written into its argument: %v", whole(encoded))
		}
	}
}

func TestAppendReturnsNewMemory(t *testing.T) {
	for _, u := range samples() {
		for _, before := range []string{"", "before"} {
			b := withRoom([]byte(before))
			first, second := Append(b, u), Append(b, u)
			want := append([]byte(before), with(parts(u)...)...)
			for i := range whole(b) {
				whole(b)[i] = '!'
			}
			if !bytes.Equal(first, want) {
				t.Fatalf("the result has changed with the argument: %v", first)
			}
			for i := range whole(first) {
				whole(first)[i] = '?'
			}
			if !bytes.Equal(second, want) {
				t.Fatalf("a result has changed with another one: %v", second)
			}
		}
	}
}

func TestDecodeReturnsNewMemory(t *testing.T) {
	for _, u := range samples() {
		b := Append(nil, u)
		first, _, _ := Decode(b)
		second, _, _ := Decode(b)
		clear(b)
		if !same(first, u) {
			t.Fatalf("the result has changed with the argument: %v", first)
		}
		clear(whole(first.Effects))
		if !same(second, u) {
			t.Fatalf("a result has changed with another one: %v", second)
		}
	}
}

// R5

func TestNilIsEmpty(t *testing.T) {
	u, v := of(101, 1, 0), api.Update{Client: 101, Seq: 1, Effects: []api.Effect{}}
	if !Equal(u, v) || !Equal(v, u) || Compare(u, v) != 0 || Before(u, v) || Before(v, u) || Validate(u) != Validate(v) || Commutes(u) != Commutes(v) {
		t.Errorf("nil and empty lists of effects differ")
	}
	for _, u := range append(samples(), u, v) {
		if a, b := Append(nil, u), Append([]byte{}, u); !bytes.Equal(a, b) || len(a) == 0 {
			t.Errorf("Append(%v) gives %v to nil and %v to an empty slice", u, a, b)
		}
	}
	for _, b := range [][]byte{nil, {}} {
		if u, n, e := Decode(b); !same(u, api.Update{}) || n != 0 || e != api.ErrTruncated {
			t.Errorf("Decode of nothing = %v, %d, %v", u, n, e)
		}
	}
}

// R9

func TestLongListsOfEffects(t *testing.T) {
	long := of(101, 1, 0, make([]api.Effect, 1<<18)...)
	other := copied(long)
	other.Effects[len(other.Effects)-1].Kind = api.EffectWrite
	if Validate(long) != api.ErrTooLong || !Equal(long, copied(long)) || Equal(long, other) || !Commutes(long) || Commutes(other) {
		t.Errorf("Validate, Equal or Commutes of a long list of effects")
	}
	if got := Append(nil, long); !bytes.Equal(got[:7], numbers(101, 1, 0, 1<<18, 0)) || len(got) != 6+5*len(long.Effects) {
		t.Errorf("Append of a long list of effects has %d bytes", len(got))
	}
}

func TestLongStrings(t *testing.T) {
	for _, piece := range []string{"x", "é", "\xff"} {
		long := strings.Repeat(piece, 1<<24/len(piece))
		for _, e := range []api.Effect{named(long, "f", mark()), named("o", long, mark()), named(long, long, write(1, long)), insert(long), effect(api.EffectAdd, 1, long)} {
			if errno := ValidateEffect(e); errno != api.ErrTooLong {
				t.Errorf("an effect with a string of 2^24 bytes: %v", errno)
			}
		}
		if errno := ValidateEffect(named("", long, mark())); errno != api.ErrInvalid {
			t.Errorf("an effect with no object and a field of 2^24 bytes: %v", errno)
		}
		if u, n, e := Decode(with(parts(of(101, 1, 0, named(long, "f", mark())))...)); !same(u, api.Update{}) || n != 0 || e != api.ErrTooLong {
			t.Errorf("Decode of an object of 2^24 bytes = %d, %v", n, e)
		}
	}
}

func TestLongArguments(t *testing.T) {
	before := bytes.Repeat([]byte("x"), 1<<24)
	u := samples()[5]
	encoded := Append(before, u)
	if !bytes.Equal(encoded[:len(before)], before) {
		t.Errorf("Append has not kept the bytes before")
	}
	after := append(encoded[len(before):], before...)
	if v, n, e := Decode(after); !same(u, v) || n != len(after)-len(before) || e != api.OK {
		t.Errorf("Decode before many bytes = %v, %d, %v", v, n, e)
	}
}

func FuzzDecode(f *testing.F) {
	for _, u := range samples()[:12] {
		f.Add(Append(nil, u))
	}
	f.Add(with(parts(of(101, 1, 1, mark(), write(1, "x")))...))
	f.Add(numbers(101, 1, 0, 5))
	f.Add([]byte{101, 1, 0, 1, 5, 129, 0})
	f.Fuzz(func(t *testing.T, b []byte) {
		before := bytes.Clone(b)
		checkDecode(t, b)
		if !bytes.Equal(b, before) {
			t.Errorf("Decode has changed %v to %v", before, b)
		}
	})
}

func FuzzNames(f *testing.F) {
	for _, name := range []string{"", "o", longest, longest + "x", "fifteen bytes..é", "\xff", "\xe2\x82"} {
		f.Add(name, name)
	}
	f.Fuzz(func(t *testing.T, object, field string) {
		e := named(object, field, mark())
		if errno := ValidateEffect(e); errno != effectError(e) {
			t.Errorf("ValidateEffect(%v) = %v, want %v", e, errno, effectError(e))
		}
	})
}
