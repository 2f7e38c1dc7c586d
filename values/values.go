// Package values: the values of an encoding, one after the other. Several layers encode their types in this way.
package values

import (
	"bytes"
	"math"

	"elasticstore/api"
	"elasticstore/wire"
)

const maxNumber = math.MaxInt32 // in an encoding: fits every size of int

// AppendNumbers returns b followed by the encodings of numbers.
func AppendNumbers(b []byte, numbers ...int) []byte {
	// Appending to b itself could write into memory that the caller still uses.
	out := bytes.Clone(b)
	for _, n := range numbers {
		// wire.AppendUint copies what it is given: handing out over each time would take quadratic time.
		out = append(out, wire.AppendUint(nil, uint64(n))...)
	}
	return out
}

// Reader reads the values of Input. The first error stays in Failed; every value read after it is zero.
type Reader struct {
	Input  []byte
	Used   int // bytes of Input that the values read so far take
	Failed api.Errno
}

// Number reads a number.
func (r *Reader) Number() int {
	if r.Failed != api.OK {
		return 0
	}
	v, n, e := wire.Uint(r.Input[r.Used:])
	if e == api.OK && v > maxNumber {
		e = api.ErrRange
	}
	if e != api.OK {
		r.Failed = e
		return 0
	}
	r.Used += n
	return int(v)
}

// Count reads how many elements follow, of which there may be most.
func (r *Reader) Count(most int) int {
	n := r.Number()
	if n > most {
		r.Failed = api.ErrTooLong
		return 0
	}
	return n
}
