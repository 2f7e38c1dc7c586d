package wire

import (
	"bytes"
	"math"
	"math/bits"
	"strings"
	"testing"

	"elasticstore/api"
)

// groups is the definition of P1.1, computed from the number of groups instead of group by group.
func groups(v uint64) []byte {
	n := max(1, (bits.Len64(v)+6)/7)
	out := make([]byte, n)
	for i := range out {
		out[i] = byte(v>>(7*i)) & 0x7f
		if i < n-1 {
			out[i] |= 0x80
		}
	}
	return out
}

// edges returns the numbers next to each power of two, where the number of groups changes.
func edges() []uint64 {
	out := []uint64{0, 300, math.MaxUint64, math.MaxUint64 - 1}
	for k := range 64 {
		p := uint64(1) << k
		out = append(out, p-1, p, p+1)
	}
	return out
}

// inputs returns byte strings of all lengths up to twelve: all of up to two bytes, and behind runs of continued groups
// all short combinations of the bytes at which a decision changes.
func inputs() [][]byte {
	out := [][]byte{{}}
	for i := range 256 {
		out = append(out, []byte{byte(i)})
		for j := range 256 {
			out = append(out, []byte{byte(i), byte(j)})
		}
	}
	deciding := []byte{0, 1, 2, 3, 0x7f, 0x80, 0x81, 0x82, 0xff}
	for n := range 10 {
		for _, fill := range []byte{0x80, 0x81, 0xff} {
			run := bytes.Repeat([]byte{fill}, n)
			out = append(out, run)
			for _, x := range deciding {
				for _, y := range deciding {
					out = append(out, join(run, []byte{x}), join(run, []byte{x, y}), join(run, []byte{x, y, 0}))
				}
			}
		}
	}
	return out
}

func join(parts ...[]byte) []byte {
	return bytes.Join(parts, nil)
}

// firstError is the list of conditions of P1.2 for the encoding at the beginning of b.
func firstError(b []byte) api.Errno {
	for i := 0; ; i++ {
		switch {
		case i == len(b):
			return api.ErrTruncated
		case i == 9 && b[i] > 1:
			return api.ErrRange
		case b[i] < 0x80 && b[i] == 0 && i > 0:
			return api.ErrInvalid
		case b[i] < 0x80:
			return api.OK
		}
	}
}

func TestAppendUintExamples(t *testing.T) {
	for _, x := range []struct {
		v    uint64
		want []byte
	}{
		{0, []byte{0}},
		{1, []byte{1}},
		{127, []byte{127}},
		{128, []byte{128, 1}},
		{300, []byte{172, 2}},
		{1<<14 - 1, []byte{255, 127}},
		{1 << 14, []byte{128, 128, 1}},
		{1<<63 - 1, []byte{255, 255, 255, 255, 255, 255, 255, 255, 127}},
		{1 << 63, []byte{128, 128, 128, 128, 128, 128, 128, 128, 128, 1}},
		{math.MaxUint64, []byte{255, 255, 255, 255, 255, 255, 255, 255, 255, 1}},
	} {
		if got := AppendUint(nil, x.v); !bytes.Equal(got, x.want) {
			t.Errorf("AppendUint(nil, %d) = %v, want %v", x.v, got, x.want)
		}
	}
}

func TestAppendUintIsGroupsOfSevenBits(t *testing.T) {
	for _, v := range edges() {
		if got, want := AppendUint([]byte("ab"), v), join([]byte("ab"), groups(v)); !bytes.Equal(got, want) {
			t.Errorf("AppendUint(ab, %d) = %v, want %v", v, got, want)
		}
	}
}

func TestUintExamples(t *testing.T) {
	zeros, ones := bytes.Repeat([]byte{0x80}, 9), bytes.Repeat([]byte{0xff}, 9)
	for _, x := range []struct {
		b []byte
		v uint64
		n int
		e api.Errno
	}{
		{[]byte{0}, 0, 1, api.OK},
		{[]byte{127, 1}, 127, 1, api.OK},
		{[]byte{172, 2}, 300, 2, api.OK},
		{join(zeros, []byte{1}), 1 << 63, 10, api.OK},
		{join(ones, []byte{1, 7}), math.MaxUint64, 10, api.OK},
		{nil, 0, 0, api.ErrTruncated},
		{[]byte{128}, 0, 0, api.ErrTruncated},
		{zeros, 0, 0, api.ErrTruncated},
		{[]byte{128, 0}, 0, 0, api.ErrInvalid},
		{[]byte{129, 128, 0, 1}, 0, 0, api.ErrInvalid},
		{join(zeros, []byte{0}), 0, 0, api.ErrInvalid},
		{join(zeros, []byte{2}), 0, 0, api.ErrRange},
		{join(zeros, []byte{0x80}), 0, 0, api.ErrRange},
		{join(ones, []byte{0x81, 0}), 0, 0, api.ErrRange},
		{join(ones, ones), 0, 0, api.ErrRange},
	} {
		if v, n, e := Uint(x.b); v != x.v || n != x.n || e != x.e {
			t.Errorf("Uint(%v) = %d, %d, %v, want %d, %d, %v", x.b, v, n, e, x.v, x.n, x.e)
		}
	}
}

func TestUintReturnsFirstError(t *testing.T) {
	for _, b := range inputs() {
		v, n, e := Uint(b)
		if want := firstError(b); e != want {
			t.Errorf("Uint(%v) returns error %v, want %v", b, e, want)
		}
		if e != api.OK && (v != 0 || n != 0) {
			t.Errorf("Uint(%v) = %d, %d with error %v", b, v, n, e)
		}
	}
}

func TestAppendIntExamples(t *testing.T) {
	for _, x := range []struct {
		v int64
		u uint64
	}{
		{0, 0}, {-1, 1}, {1, 2}, {-2, 3}, {2, 4}, {63, 126}, {-64, 127}, {64, 128}, {-65, 129},
		{math.MaxInt64, math.MaxUint64 - 1}, {math.MinInt64, math.MaxUint64}, {math.MinInt64 + 1, math.MaxUint64 - 2},
	} {
		want := groups(x.u)
		if got := AppendInt([]byte{5}, x.v); !bytes.Equal(got, join([]byte{5}, want)) {
			t.Errorf("AppendInt(5, %d) = %v, want 5 and %v", x.v, got, want)
		}
		if v, n, e := Int(join(want, []byte{0x80})); v != x.v || n != len(want) || e != api.OK {
			t.Errorf("Int(%v) = %d, %d, %v, want %d", want, v, n, e, x.v)
		}
	}
}

func TestIntReturnsErrorsOfUint(t *testing.T) {
	for _, b := range inputs() {
		v, n, e := Int(b)
		_, wantN, wantE := Uint(b)
		if n != wantN || e != wantE {
			t.Errorf("Int(%v) consumes %d bytes with error %v, want %d and %v", b, n, e, wantN, wantE)
		}
		if e != api.OK && v != 0 {
			t.Errorf("Int(%v) = %d with error %v", b, v, e)
		}
	}
}

func TestAppendString(t *testing.T) {
	for _, s := range []string{"", "a", "\x00\xff\x80", "é", strings.Repeat("x", 127), strings.Repeat("y", 128), strings.Repeat("z", 1<<14)} {
		want := join([]byte{9}, groups(uint64(len(s))), []byte(s))
		if got := AppendString([]byte{9}, s); !bytes.Equal(got, want) {
			t.Errorf("AppendString of %d bytes = %v", len(s), got)
		}
	}
}

func TestStringExamples(t *testing.T) {
	for _, x := range []struct {
		b []byte
		s string
		n int
		e api.Errno
	}{
		{[]byte{0}, "", 1, api.OK},
		{[]byte{0, 'a'}, "", 1, api.OK},
		{[]byte{2, 'a', 0xff}, "a\xff", 3, api.OK},
		{[]byte{2, 'a', 'b', 'c'}, "ab", 3, api.OK},
		{nil, "", 0, api.ErrTruncated},
		{[]byte{1}, "", 0, api.ErrTruncated},
		{[]byte{3, 'a', 'b'}, "", 0, api.ErrTruncated},
		{[]byte{0x80}, "", 0, api.ErrTruncated},
		{[]byte{0x80, 0}, "", 0, api.ErrInvalid},
		{[]byte{0x81, 0, 'a'}, "", 0, api.ErrInvalid},
		{join(bytes.Repeat([]byte{0x80}, 9), []byte{2}), "", 0, api.ErrRange},
	} {
		if s, n, e := String(x.b); s != x.s || n != x.n || e != x.e {
			t.Errorf("String(%v) = %q, %d, %v, want %q, %d, %v", x.b, s, n, e, x.s, x.n, x.e)
		}
	}
}

// Lengths that become small, zero or negative numbers when they are cut to fewer bits must not be taken for these.
func TestStringLengthAboveInt(t *testing.T) {
	for _, size := range []uint64{3, 1 << 24, 1 << 31, 1 << 32, 1<<32 + 1, 1<<63 - 1, 1 << 63, 1<<63 + 1, math.MaxUint64 - 9, math.MaxUint64} {
		b := join(groups(size), []byte("ab"))
		if s, n, e := String(b); s != "" || n != 0 || e != api.ErrTruncated {
			t.Errorf("String(%v) = %q, %d, %v, want ErrTruncated", b, s, n, e)
		}
	}
}

func TestStringOfGreatestLength(t *testing.T) {
	s := strings.Repeat("ab", 1<<23)
	b := AppendString(nil, s)
	if got, n, e := String(b); got != s || n != len(b) || e != api.OK {
		t.Errorf("a string of %d bytes decodes to %d bytes, %d, %v", len(s), len(got), n, e)
	}
	if _, _, e := String(b[:len(b)-1]); e != api.ErrTruncated {
		t.Errorf("without its last byte it gives %v", e)
	}
}

func TestAppendBool(t *testing.T) {
	if got := AppendBool([]byte{7}, true); !bytes.Equal(got, []byte{7, 1}) {
		t.Errorf("AppendBool(7, true) = %v", got)
	}
	if got := AppendBool([]byte{7}, false); !bytes.Equal(got, []byte{7, 0}) {
		t.Errorf("AppendBool(7, false) = %v", got)
	}
}

func TestBool(t *testing.T) {
	if v, n, e := Bool(nil); v || n != 0 || e != api.ErrTruncated {
		t.Errorf("Bool(nil) = %v, %d, %v", v, n, e)
	}
	for i := range 256 {
		wantN, wantE := 1, api.OK
		if i > 1 {
			wantN, wantE = 0, api.ErrInvalid
		}
		for _, b := range [][]byte{{byte(i)}, {byte(i), 0}, {byte(i), 1, 255}} {
			if v, n, e := Bool(b); v != (i == 1) || n != wantN || e != wantE {
				t.Errorf("Bool(%v) = %v, %d, %v", b, v, n, e)
			}
		}
	}
}

func TestEncodingsDecode(t *testing.T) {
	for _, tail := range []string{"", "\x00", "\x01", "\x80", "\xff\xff\xff", strings.Repeat("\xff", 12)} {
		for _, u := range edges() {
			b := AppendUint(nil, u)
			if v, n, e := Uint(join(b, []byte(tail))); v != u || n != len(b) || e != api.OK {
				t.Errorf("Uint of the encoding of %d = %d, %d, %v", u, v, n, e)
			}
			i := int64(u)
			b = AppendInt(nil, i)
			if v, n, e := Int(join(b, []byte(tail))); v != i || n != len(b) || e != api.OK {
				t.Errorf("Int of the encoding of %d = %d, %d, %v", i, v, n, e)
			}
			s := strings.Repeat("\xfe", int(u%1000))
			b = AppendString(nil, s)
			if v, n, e := String(join(b, []byte(tail))); v != s || n != len(b) || e != api.OK {
				t.Errorf("String of the encoding of %q = %q, %d, %v", s, v, n, e)
			}
		}
		for _, v := range []bool{false, true} {
			b := AppendBool(nil, v)
			if got, n, e := Bool(join(b, []byte(tail))); got != v || n != len(b) || e != api.OK {
				t.Errorf("Bool of the encoding of %v = %v, %d, %v", v, got, n, e)
			}
		}
	}
}

func TestPrefixesOfEncodingsAreTruncated(t *testing.T) {
	for _, u := range edges() {
		b := AppendUint(nil, u)
		for i := range b {
			if v, n, e := Uint(b[:i]); v != 0 || n != 0 || e != api.ErrTruncated {
				t.Errorf("Uint(%v) = %d, %d, %v", b[:i], v, n, e)
			}
		}
	}
	b := AppendString(nil, strings.Repeat("s", 200))
	for i := range b {
		if s, n, e := String(b[:i]); s != "" || n != 0 || e != api.ErrTruncated {
			t.Errorf("String(%v) = %q, %d, %v", b[:i], s, n, e)
		}
	}
}

// accepted checks that each decoder either fails, or consumes exactly the encoding of what it returns.
func accepted(t *testing.T, b []byte) {
	t.Helper()
	if v, n, e := Uint(b); e == api.OK && !bytes.Equal(AppendUint(nil, v), b[:n]) {
		t.Errorf("Uint(%v) = %d, %d: it consumes another encoding", b, v, n)
	}
	if v, n, e := Int(b); e == api.OK && !bytes.Equal(AppendInt(nil, v), b[:n]) {
		t.Errorf("Int(%v) = %d, %d: it consumes another encoding", b, v, n)
	}
	if v, n, e := String(b); e == api.OK && !bytes.Equal(AppendString(nil, v), b[:n]) {
		t.Errorf("String(%v) = %q, %d: it consumes another encoding", b, v, n)
	}
	if v, n, e := Bool(b); e == api.OK && !bytes.Equal(AppendBool(nil, v), b[:n]) {
		t.Errorf("Bool(%v) = %v, %d: it consumes another encoding", b, v, n)
	}
}

func TestDecodersAcceptOnlyEncodings(t *testing.T) {
	for _, b := range inputs() {
		accepted(t, b)
	}
}

func FuzzDecodersAcceptOnlyEncodings(f *testing.F) {
	f.Add([]byte{})
	f.Add([]byte{172, 2})
	f.Add([]byte{2, 'a', 'b', 'c'})
	f.Add(groups(math.MaxUint64))
	f.Fuzz(func(t *testing.T, b []byte) {
		before := bytes.Clone(b)
		accepted(t, b)
		if _, _, e := Uint(b); e != firstError(b) {
			t.Errorf("Uint(%v) returns error %v, want %v", b, e, firstError(b))
		}
		if !bytes.Equal(b, before) {
			t.Errorf("a decoder has changed %v to %v", before, b)
		}
	})
}

// encoders returns a call of each Append function; the lists of bytes that they append differ in length.
func encoders() map[string]func([]byte) []byte {
	return map[string]func([]byte) []byte{
		"AppendUint 0":       func(b []byte) []byte { return AppendUint(b, 0) },
		"AppendUint 2^64-1":  func(b []byte) []byte { return AppendUint(b, math.MaxUint64) },
		"AppendInt -2":       func(b []byte) []byte { return AppendInt(b, -2) },
		"AppendInt 2^63-1":   func(b []byte) []byte { return AppendInt(b, math.MaxInt64) },
		"AppendString empty": func(b []byte) []byte { return AppendString(b, "") },
		"AppendString xyz":   func(b []byte) []byte { return AppendString(b, "xyz") },
		"AppendBool false":   func(b []byte) []byte { return AppendBool(b, false) },
		"AppendBool true":    func(b []byte) []byte { return AppendBool(b, true) },
	}
}

func TestAppendReturnsNewMemory(t *testing.T) {
	const text = "abcdefghijklmnopqrstuvwxyz"
	for name, encode := range encoders() {
		full := []byte(text)
		first := encode(full[:4])
		want := bytes.Clone(first)
		if string(full) != text {
			t.Errorf("%s has written into its argument: %q", name, full)
		}
		second := encode(full[:4])
		for i := range full {
			full[i] = '!'
		}
		if !bytes.Equal(first, want) || !bytes.Equal(second, want) {
			t.Errorf("%s: the result has changed with the argument", name)
		}
		for i := range first {
			first[i] = '?'
		}
		if !bytes.Equal(second, want) {
			t.Errorf("%s: a result has changed with another one", name)
		}
	}
}

func TestStringReturnsNewMemory(t *testing.T) {
	b := AppendString(nil, "abc")
	s, _, _ := String(b)
	b[1] = 'x'
	if s != "abc" {
		t.Errorf("the string has become %q", s)
	}
}

func TestNilIsEmpty(t *testing.T) {
	for name, encode := range encoders() {
		if a, b := encode(nil), encode([]byte{}); !bytes.Equal(a, b) || len(a) == 0 {
			t.Errorf("%s appends %v to nil and %v to an empty slice", name, a, b)
		}
	}
	for _, b := range [][]byte{nil, {}} {
		_, _, eu := Uint(b)
		_, _, ei := Int(b)
		_, _, es := String(b)
		_, _, eb := Bool(b)
		if eu != api.ErrTruncated || ei != api.ErrTruncated || es != api.ErrTruncated || eb != api.ErrTruncated {
			t.Errorf("decoding nothing gives %v, %v, %v, %v", eu, ei, es, eb)
		}
	}
}
