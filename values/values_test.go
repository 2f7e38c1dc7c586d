package values

import (
	"bytes"
	"encoding/binary"
	"math"
	"testing"

	"elasticstore/api"
)

// encoded encodes numbers one after the other.
func encoded(numbers ...uint64) []byte {
	var b []byte
	for _, n := range numbers {
		b = binary.AppendUvarint(b, n)
	}
	return b
}

func TestAppendNumbers(t *testing.T) {
	for _, x := range []struct {
		before  string
		numbers []int
		want    []byte
	}{
		{"", nil, nil},
		{"ab", nil, []byte("ab")},
		{"", []int{0}, []byte{0}},
		{"ab", []int{1, 300, 127, 128}, []byte{'a', 'b', 1, 172, 2, 127, 128, 1}},
		{"", []int{math.MaxInt32, math.MaxInt, -1}, encoded(math.MaxInt32, math.MaxInt, math.MaxUint64)},
	} {
		if got := AppendNumbers([]byte(x.before), x.numbers...); !bytes.Equal(got, x.want) {
			t.Errorf("AppendNumbers(%q, %v) = %v, want %v", x.before, x.numbers, got, x.want)
		}
	}
}

func TestAppendNumbersReturnsNewMemory(t *testing.T) {
	b := append(make([]byte, 0, 100), "before"...)
	first, second := AppendNumbers(b, 1, 2), AppendNumbers(b, 3)
	clear(b[:cap(b)])
	if string(first) != "before\x01\x02" || string(second) != "before\x03" {
		t.Errorf("the results have become %q and %q", first, second)
	}
}

func TestReader(t *testing.T) {
	r := Reader{Input: encoded(7, 3, 0, math.MaxInt32, 300)}
	first, count := r.Number(), r.Count(3)
	if first != 7 || count != 3 || r.Used != 2 {
		t.Errorf("a number %d and a count %d from %d bytes", first, count, r.Used)
	}
	for _, want := range []int{0, math.MaxInt32, 300} {
		if got := r.Number(); got != want {
			t.Errorf("Number = %d, want %d", got, want)
		}
	}
	if r.Failed != api.OK || r.Used != len(r.Input) {
		t.Errorf("Failed is %v, Used is %d", r.Failed, r.Used)
	}
}

func TestReaderErrors(t *testing.T) {
	for _, x := range []struct {
		name string
		b    []byte
		e    api.Errno
	}{
		{"the end", nil, api.ErrTruncated},
		{"half a number", []byte{128}, api.ErrTruncated},
		{"an overlong number", []byte{128, 0}, api.ErrInvalid},
		{"more than 64 bits", bytes.Repeat([]byte{255}, 10), api.ErrRange},
		{"2^31", encoded(1 << 31), api.ErrRange},
		{"2^32 + 1", encoded(1<<32 + 1), api.ErrRange},
		{"2^63", encoded(1 << 63), api.ErrRange},
	} {
		for _, read := range []func(*Reader) int{(*Reader).Number, func(r *Reader) int { return r.Count(math.MaxInt) }} {
			r := Reader{Input: append(encoded(5), x.b...)}
			r.Number()
			if n := read(&r); n != 0 || r.Failed != x.e || r.Used != 1 {
				t.Errorf("%s: a value %d, error %v, %d bytes", x.name, n, r.Failed, r.Used)
			}
		}
	}
}

func TestCountAboveMost(t *testing.T) {
	for _, n := range []uint64{13, 200, math.MaxInt32} {
		r := Reader{Input: encoded(n)}
		if got := r.Count(12); got != 0 || r.Failed != api.ErrTooLong {
			t.Errorf("Count of %d = %d with error %v", n, got, r.Failed)
		}
	}
	r := Reader{Input: encoded(1 << 31)}
	if got := r.Count(12); got != 0 || r.Failed != api.ErrRange {
		t.Errorf("Count of 2^31 = %d with error %v", got, r.Failed)
	}
}

func TestFirstErrorStays(t *testing.T) {
	r := Reader{Input: encoded(13, 1<<31, 5)}
	r.Count(12)
	for range 3 {
		if n, count := r.Number(), r.Count(1); n != 0 || count != 0 || r.Failed != api.ErrTooLong {
			t.Errorf("behind an error: a number %d, a count %d, error %v", n, count, r.Failed)
		}
	}
}
