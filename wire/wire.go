// Package wire: integers, strings and booleans in bytes. See doc/01-wire.md.
package wire

import (
	"bytes"

	"elasticstore/api"
)

const (
	groupBits = 7
	highBit   = 1 << groupBits // set in every byte of an integer but the last
	lastByte  = 9              // index of the tenth byte: it holds bit 63, the only one that is left of 64 bits
)

// AppendUint returns b followed by the shortest base-128 encoding of v.
func AppendUint(b []byte, v uint64) []byte {
	// Appending to b itself could write into memory that the caller still uses.
	out := bytes.Clone(b)
	for v >= highBit {
		out = append(out, byte(v)|highBit)
		v >>= groupBits
	}
	return append(out, byte(v))
}

// Uint decodes an unsigned integer from the beginning of b. Encodings that are longer than necessary are rejected,
// so that every value has exactly one encoding.
func Uint(b []byte) (uint64, int, api.Errno) {
	v, i := uint64(0), 0
next:
	if i == len(b) {
		return 0, 0, api.ErrTruncated
	}
	if i == lastByte && b[i] > 1 {
		return 0, 0, api.ErrRange
	}
	v |= uint64(b[i]&^highBit) << (groupBits * i)
	if b[i]&highBit != 0 {
		i++
		goto next
	}
	if b[i] == 0 && i > 0 {
		return 0, 0, api.ErrInvalid
	}
	return v, i + 1, api.OK
}

// AppendInt returns b followed by the zigzag encoding of v, which is short for numbers near 0 of either sign.
func AppendInt(b []byte, v int64) []byte {
	if v >= 0 {
		return AppendUint(b, 2*uint64(v))
	}
	// ^v is -v-1, and cannot overflow where -v does.
	return AppendUint(b, 2*uint64(^v)+1)
}

// Int decodes a signed integer from the beginning of b.
func Int(b []byte) (int64, int, api.Errno) {
	u, n, e := Uint(b)
	if e != api.OK {
		return 0, 0, e
	}
	v := int64(u / 2)
	if u%2 == 1 {
		v = ^v
	}
	return v, n, api.OK
}

// AppendString returns b followed by the length of s and its bytes.
func AppendString(b []byte, s string) []byte {
	return append(AppendUint(b, uint64(len(s))), s...)
}

// String decodes a string from the beginning of b.
func String(b []byte) (string, int, api.Errno) {
	size, n, e := Uint(b)
	if e != api.OK {
		return "", 0, e
	}
	// Compared as unsigned: a size from outside may be too large for an int.
	if size > uint64(len(b)-n) {
		return "", 0, api.ErrTruncated
	}
	end := n + int(size)
	return string(b[n:end]), end, api.OK
}

// AppendBool returns b followed by the byte 1 for true and 0 for false.
func AppendBool(b []byte, v bool) []byte {
	bit := byte(0)
	if v {
		bit = 1
	}
	return append(bytes.Clone(b), bit)
}

// Bool decodes a boolean from the beginning of b.
func Bool(b []byte) (bool, int, api.Errno) {
	switch {
	case len(b) == 0:
		return false, 0, api.ErrTruncated
	case b[0] > 1:
		return false, 0, api.ErrInvalid
	}
	return b[0] == 1, 1, api.OK
}
