// Package values: the values of an encoding, one after the other. Several layers encode their types in this way.
package values

import (
	"bytes"
	"math"

	"elasticstore/api"
	"elasticstore/wire"
)

const maxNumber = math.MaxInt32 // in an encoding: fits every size of int

// AppendNumbers returns b followed by the encodings of numbers.
func AppendNumbers(b []byte, numbers ...int) []byte {
	// Appending to b itself could write into memory that the caller still uses.
	out := bytes.Clone(b)
	for _, n := range numbers {
		// wire.AppendUint copies what it is given: handing out over each time would take quadratic time.
		out = append(out, wire.AppendUint(nil, uint64(n))...)
	}
	return out
}

// Reader reads the values of Input. The first error stays in Failed; every value read after it is zero.
type Reader struct {
	Input  []byte
	Used   int // bytes of Input that the values read so far take
	Failed api.Errno
}

// Number reads a number.
func (r *Reader) Number() int { return Read(r, number) }

// Count reads how many elements follow, of which there may be most.
func (r *Reader) Count(most int) int {
	n := r.Number()
	if n > most {
		r.Failed = api.ErrTooLong
		return 0
	}
	return n
}

// Signed reads a signed integer.
func (r *Reader) Signed() int64 { return Read(r, wire.Int) }

// Text reads a string.
func (r *Reader) Text() string { return Read(r, wire.String) }

// Flag reads a boolean.
func (r *Reader) Flag() bool { return Read(r, wire.Bool) }

// Read reads a value with a decoder that returns zero values together with an error.
func Read[V any](r *Reader, decode func(b []byte) (V, int, api.Errno)) V {
	if r.Failed != api.OK {
		var none V
		return none
	}
	v, n, e := decode(r.Input[r.Used:])
	r.Used += n
	r.Failed = e
	return v
}

// number decodes a number from the beginning of b.
func number(b []byte) (int, int, api.Errno) {
	v, n, e := wire.Uint(b)
	if v > maxNumber {
		return 0, 0, api.ErrRange
	}
	return int(v), n, e
}
