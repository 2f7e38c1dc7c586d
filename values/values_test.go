package values

import (
	"bytes"
	"encoding/binary"
	"math"
	"testing"

	"elasticstore/api"
)

// encoded encodes numbers one after the other.
func encoded(numbers ...uint64) []byte {
	var b []byte
	for _, n := range numbers {
		b = binary.AppendUvarint(b, n)
	}
	return b
}

func TestAppendNumbers(t *testing.T) {
	for _, x := range []struct {
		before  string
		numbers []int
		want    []byte
	}{
		{"", nil, nil},
		{"ab", nil, []byte("ab")},
		{"", []int{0}, []byte{0}},
		{"ab", []int{1, 300, 127, 128}, []byte{'a', 'b', 1, 172, 2, 127, 128, 1}},
		{"", []int{math.MaxInt32, math.MaxInt, -1}, encoded(math.MaxInt32, math.MaxInt, math.MaxUint64)},
	} {
		if got := AppendNumbers([]byte(x.before), x.numbers...); !bytes.Equal(got, x.want) {
			t.Errorf("AppendNumbers(%q, %v) = %v, want %v", x.before, x.numbers, got, x.want)
		}
	}
}

func TestAppendNumbersReturnsNewMemory(t *testing.T) {
	b := append(make([]byte, 0, 100), "before"...)
	first, second := AppendNumbers(b, 1, 2), AppendNumbers(b, 3)
	clear(b[:cap(b)])
	if string(first) != "before\x01\x02" || string(second) != "before\x03" {
		t.Errorf("the results have become %q and %q", first, second)
	}
}

func TestReader(t *testing.T) {
	r := Reader{Input: encoded(7, 3, 0, math.MaxInt32, 300)}
	first, count := r.Number(), r.Count(3)
	if first != 7 || count != 3 || r.Used != 2 {
		t.Errorf("a number %d and a count %d from %d bytes", first, count, r.Used)
	}
	for _, want := range []int{0, math.MaxInt32, 300} {
		if got := r.Number(); got != want {
			t.Errorf("Number = %d, want %d", got, want)
		}
	}
	if r.Failed != api.OK || r.Used != len(r.Input) {
		t.Errorf("Failed is %v, Used is %d", r.Failed, r.Used)
	}
}

// The texts and integers of an encoding lie between its numbers.
func TestReaderOfTextsAndIntegers(t *testing.T) {
	b := append(encoded(3), "ab\xff"...)
	b = append(b, 0) // an empty text
	b = binary.AppendVarint(b, -300)
	b = binary.AppendVarint(b, math.MinInt64)
	b = binary.AppendVarint(b, math.MaxInt64)
	b = append(b, encoded(7, 1<<31)...)
	r := Reader{Input: b}
	if first, second := r.Text(), r.Text(); first != "ab\xff" || second != "" || r.Used != 5 {
		t.Errorf("texts %q and %q from %d bytes", first, second, r.Used)
	}
	for _, want := range []int64{-300, math.MinInt64, math.MaxInt64} {
		if got := r.Signed(); got != want {
			t.Errorf("Signed = %d, want %d", got, want)
		}
	}
	if n := r.Number(); n != 7 || r.Failed != api.OK {
		t.Errorf("Number = %d, Failed is %v", n, r.Failed)
	}
	if n := r.Signed(); n != 1<<30 || r.Used != len(b) {
		t.Errorf("Signed = %d, Used is %d of %d", n, r.Used, len(b))
	}
}

func TestReaderErrorsOfTextsAndIntegers(t *testing.T) {
	for _, x := range []struct {
		name string
		b    []byte
		e    api.Errno
	}{
		{"the end", nil, api.ErrTruncated},
		{"half a value", []byte{200}, api.ErrTruncated},
		{"an overlong value", []byte{130, 0, 'a', 'b'}, api.ErrInvalid},
		{"more than 64 bits", bytes.Repeat([]byte{255}, 10), api.ErrRange},
	} {
		text, signed := Reader{Input: append([]byte{5}, x.b...)}, Reader{Input: append([]byte{5}, x.b...)}
		text.Number()
		signed.Number()
		if s := text.Text(); s != "" || text.Failed != x.e || text.Used != 1 {
			t.Errorf("%s: a text %q, error %v, %d bytes", x.name, s, text.Failed, text.Used)
		}
		if n := signed.Signed(); n != 0 || signed.Failed != x.e || signed.Used != 1 {
			t.Errorf("%s: an integer %d, error %v, %d bytes", x.name, n, signed.Failed, signed.Used)
		}
	}
	for _, b := range [][]byte{{3, 'a', 'b'}, encoded(1 << 31), encoded(math.MaxUint64)} {
		r := Reader{Input: b}
		if s := r.Text(); s != "" || r.Failed != api.ErrTruncated || r.Used != 0 {
			t.Errorf("Text of %v = %q, error %v, %d bytes", b, s, r.Failed, r.Used)
		}
	}
}

func TestReaderErrors(t *testing.T) {
	for _, x := range []struct {
		name string
		b    []byte
		e    api.Errno
	}{
		{"the end", nil, api.ErrTruncated},
		{"half a number", []byte{128}, api.ErrTruncated},
		{"an overlong number", []byte{128, 0}, api.ErrInvalid},
		{"more than 64 bits", bytes.Repeat([]byte{255}, 10), api.ErrRange},
		{"2^31", encoded(1 << 31), api.ErrRange},
		{"2^32 + 1", encoded(1<<32 + 1), api.ErrRange},
		{"2^63", encoded(1 << 63), api.ErrRange},
	} {
		for _, read := range []func(*Reader) int{(*Reader).Number, func(r *Reader) int { return r.Count(math.MaxInt) }} {
			r := Reader{Input: append(encoded(5), x.b...)}
			r.Number()
			if n := read(&r); n != 0 || r.Failed != x.e || r.Used != 1 {
				t.Errorf("%s: a value %d, error %v, %d bytes", x.name, n, r.Failed, r.Used)
			}
		}
	}
}

func TestCountAboveMost(t *testing.T) {
	for _, n := range []uint64{13, 200, math.MaxInt32} {
		r := Reader{Input: encoded(n)}
		if got := r.Count(12); got != 0 || r.Failed != api.ErrTooLong {
			t.Errorf("Count of %d = %d with error %v", n, got, r.Failed)
		}
	}
	r := Reader{Input: encoded(1 << 31)}
	if got := r.Count(12); got != 0 || r.Failed != api.ErrRange {
		t.Errorf("Count of 2^31 = %d with error %v", got, r.Failed)
	}
}

func TestReaderOfFlags(t *testing.T) {
	r := Reader{Input: []byte{1, 0, 1, 2, 1}}
	for i, want := range []bool{true, false, true} {
		if got := r.Flag(); got != want || r.Used != i+1 || r.Failed != api.OK {
			t.Errorf("Flag %d = %v, error %v, %d bytes", i, got, r.Failed, r.Used)
		}
	}
	for range 2 {
		if r.Flag() || r.Failed != api.ErrInvalid || r.Used != 3 {
			t.Errorf("Flag of 2: error %v, %d bytes", r.Failed, r.Used)
		}
	}
	r = Reader{}
	if r.Flag() || r.Failed != api.ErrTruncated {
		t.Errorf("Flag of nothing: error %v", r.Failed)
	}
}

// Read reads a value with the decoder that it is given.
func TestRead(t *testing.T) {
	half := func(b []byte) ([]byte, int, api.Errno) {
		if len(b) < 2 {
			return nil, 0, api.ErrOrder
		}
		return b[:2], len(b) / 2, api.OK
	}
	r := Reader{Input: []byte("abcdefg")}
	for _, x := range []struct {
		want string
		used int
		e    api.Errno
	}{
		{"ab", 3, api.OK}, {"de", 5, api.OK}, {"fg", 6, api.OK}, {"", 6, api.ErrOrder}, {"", 6, api.ErrOrder},
	} {
		if got := Read(&r, half); string(got) != x.want || r.Used != x.used || r.Failed != x.e {
			t.Errorf("Read = %q, error %v, %d bytes", got, r.Failed, r.Used)
		}
	}
	r.Failed = api.ErrTooLong
	if got := Read(&r, func([]byte) (int, int, api.Errno) { return 5, 1, api.OK }); got != 0 || r.Used != 6 || r.Failed != api.ErrTooLong {
		t.Errorf("Read behind an error = %d, error %v, %d bytes", got, r.Failed, r.Used)
	}
}

func TestFirstErrorStays(t *testing.T) {
	r := Reader{Input: encoded(13, 1<<31, 5)}
	r.Count(12)
	used := r.Used
	for range 3 {
		if n, count := r.Number(), r.Count(1); n != 0 || count != 0 || r.Failed != api.ErrTooLong {
			t.Errorf("behind an error: a number %d, a count %d, error %v", n, count, r.Failed)
		}
		if n, s := r.Signed(), r.Text(); n != 0 || s != "" || r.Failed != api.ErrTooLong || r.Used != used {
			t.Errorf("behind an error: an integer %d, a text %q, error %v, %d bytes", n, s, r.Failed, r.Used)
		}
	}
}
