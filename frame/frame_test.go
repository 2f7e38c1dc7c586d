package frame

import (
	"bytes"
	"encoding/binary"
	"hash/crc32"
	"math/rand"
	"slices"
	"testing"

	"elasticstore/api"
)

// reference is the checksum of P2.1, computed by the standard library.
func reference(b []byte) uint32 {
	return crc32.Checksum(b, crc32.MakeTable(0x82F63B78))
}

// text returns n bytes of a fixed sequence without a short period.
func text(n int) []byte {
	out := make([]byte, n)
	rand.New(rand.NewSource(int64(n))).Read(out)
	return out
}

// header returns the header of a frame whose payload has the given length.
func header(size uint32) []byte {
	return binary.BigEndian.AppendUint32(nil, size)
}

// frameOf is the frame of P2.2, of a payload of any length.
func frameOf(payload []byte) []byte {
	body := join(header(uint32(len(payload))), payload)
	return binary.BigEndian.AppendUint32(body, reference(body))
}

func join(parts ...[]byte) []byte {
	return bytes.Join(parts, nil)
}

// frames returns the concatenated frames of some texts.
func frames(texts ...string) []byte {
	var out []byte
	for _, s := range texts {
		out = append(out, frameOf([]byte(s))...)
	}
	return out
}

// flip returns a copy of b in which one bit is changed.
func flip(b []byte, bit int) []byte {
	out := bytes.Clone(b)
	out[bit/8] ^= 1 << (bit % 8)
	return out
}

// lengths returns lengths of payloads at which a byte of the header changes, and some between them.
func lengths() []int {
	return []int{0, 1, 2, 3, 4, 7, 8, 9, 63, 64, 65, 255, 256, 257, 1000, 65279, 65280, api.MaxPayload - 1, api.MaxPayload}
}

// firstError is the list of conditions of P2.3 for the frame at the beginning of b.
func firstError(b []byte) api.Errno {
	if len(b) < 4 {
		return api.ErrTruncated
	}
	size := int64(binary.BigEndian.Uint32(b))
	switch {
	case size > api.MaxPayload:
		return api.ErrTooLong
	case int64(len(b)) < size+8:
		return api.ErrTruncated
	case binary.BigEndian.Uint32(b[size+4:]) != reference(b[:size+4]):
		return api.ErrChecksum
	}
	return api.OK
}

// expect is what P2.4 says that feeding one stream to the zero splitter returns, with the conditions of firstError.
func expect(stream []byte) (Splitter, [][]byte) {
	var payloads [][]byte
	for {
		switch e := firstError(stream); e {
		case api.OK:
			end := 4 + binary.BigEndian.Uint32(stream)
			payloads = append(payloads, stream[4:end])
			stream = stream[end+4:]
		case api.ErrTruncated:
			return Splitter{Buffer: stream}, payloads
		default:
			return Splitter{Failed: e}, payloads
		}
	}
}

// streams returns streams that end with each kind of error, before and behind complete frames.
func streams() map[string][]byte {
	good := frames("one", "", "three", "\x00\x00\x00\x00")
	return map[string][]byte{
		"nothing":                          {},
		"one empty frame":                  frames(""),
		"complete frames":                  good,
		"part of a header":                 join(good, []byte{0, 0, 0}),
		"part of a payload":                join(good, frames("torn")[:6]),
		"all but the last byte":            join(good, frames("torn")[:11]),
		"header too long":                  join(good, header(api.MaxPayload+1), frames("behind")),
		"header too long and nothing more": join(good, header(1<<31)),
		"header too long at the beginning": join(header(1<<32-1), good),
		"changed payload":                  join(good, flip(frames("bad"), 4*8), frames("behind")),
		"changed trailer":                  join(good, flip(frames("bad"), 10*8+7), frames("behind")),
		"changed at the beginning":         join(flip(frames("bad"), 7*8), good),
		"zeros":                            make([]byte, 40),
		"only one long frame":              frameOf(text(700)),
		"a frame in a frame":               join(frameOf(good), good),
	}
}

func sameSplitter(a, b Splitter) bool {
	return a.Failed == b.Failed && bytes.Equal(a.Buffer, b.Buffer)
}

func samePayloads(a, b [][]byte) bool {
	return slices.EqualFunc(a, b, bytes.Equal)
}

// P2.1

func TestChecksumExamples(t *testing.T) {
	for _, x := range []struct {
		b   string
		crc uint32
	}{
		{"", 0},
		{"123456789", 0xE3069283},
		{"a", 0xC1D04330},
		{"\x00", 0x527D5351},
		{"\x00\x00\x00\x00", 0x48674BC7},
		{"\xff\xff\xff\xff", 0xFFFFFFFF},
	} {
		if crc := Checksum([]byte(x.b)); crc != x.crc {
			t.Errorf("Checksum(%q) = %08X, want %08X", x.b, crc, x.crc)
		}
	}
}

func TestChecksumIsCRC32C(t *testing.T) {
	for i := range 256 {
		for _, b := range [][]byte{{byte(i)}, {byte(i), 0}, {0, byte(i)}, {255, byte(i), 255}} {
			if crc, want := Checksum(b), reference(b); crc != want {
				t.Errorf("Checksum(%v) = %08X, want %08X", b, crc, want)
			}
		}
	}
	for n := range 300 {
		if crc, want := Checksum(text(n)), reference(text(n)); crc != want {
			t.Errorf("Checksum of %d bytes = %08X, want %08X", n, crc, want)
		}
	}
	if long := text(1 << 24); Checksum(long) != reference(long) {
		t.Errorf("Checksum of 2^24 bytes = %08X, want %08X", Checksum(long), reference(long))
	}
}

// P2.2

func TestAppendExamples(t *testing.T) {
	// The trailers are written out, so that they do not depend on the reference.
	for _, x := range []struct {
		dst, payload string
		want         []byte
	}{
		{"", "", []byte{0, 0, 0, 0, 0x48, 0x67, 0x4b, 0xc7}},
		{"xy", "", []byte{'x', 'y', 0, 0, 0, 0, 0x48, 0x67, 0x4b, 0xc7}},
		{"", "abc", []byte{0, 0, 0, 3, 'a', 'b', 'c', 0x8f, 0x33, 0x7f, 0x99}},
	} {
		if got, e := Append([]byte(x.dst), []byte(x.payload)); !bytes.Equal(got, x.want) || e != api.OK {
			t.Errorf("Append(%q, %q) = %x, %v, want %x", x.dst, x.payload, got, e, x.want)
		}
	}
}

func TestAppendIsDstAndFrame(t *testing.T) {
	for _, dst := range [][]byte{nil, []byte("d"), frames("earlier"), header(api.MaxPayload + 1)} {
		for _, n := range lengths() {
			got, e := Append(dst, text(n))
			if e != api.OK || !bytes.Equal(got, join(dst, frameOf(text(n)))) {
				t.Errorf("Append of %d bytes to %q returns %d bytes and %v", n, dst, len(got), e)
			}
		}
	}
}

func TestAppendTooLong(t *testing.T) {
	for _, dst := range []string{"", "dst"} {
		for _, n := range []int{api.MaxPayload + 1, 2 * api.MaxPayload, 1 << 24} {
			if got, e := Append([]byte(dst), make([]byte, n)); len(got) != 0 || e != api.ErrTooLong {
				t.Errorf("Append of %d bytes to %q returns %d bytes and %v, want ErrTooLong", n, dst, len(got), e)
			}
		}
	}
}

// P2.3

func TestDecodeFrames(t *testing.T) {
	for _, tail := range [][]byte{nil, {0}, frames("next"), bytes.Repeat([]byte{255}, 9)} {
		for _, n := range lengths() {
			f := frameOf(text(n))
			if p, size, e := Decode(join(f, tail)); !bytes.Equal(p, text(n)) || size != n+8 || e != api.OK {
				t.Errorf("Decode of the frame of %d bytes returns %d bytes, %d, %v", n, len(p), size, e)
			}
		}
	}
}

func TestDecodeErrors(t *testing.T) {
	zeros := make([]byte, api.MaxPayload+9)
	for _, x := range []struct {
		name string
		b    []byte
		e    api.Errno
	}{
		{"nothing", nil, api.ErrTruncated},
		{"three bytes of a short header", []byte{0, 0, 0}, api.ErrTruncated},
		{"three bytes of a long header", []byte{255, 255, 255}, api.ErrTruncated},
		{"the greatest length without a payload", header(api.MaxPayload), api.ErrTruncated},
		{"a length above the greatest one without a payload", header(api.MaxPayload + 1), api.ErrTooLong},
		{"a length above the greatest one with all bytes and a false trailer", join(header(api.MaxPayload+1), zeros), api.ErrTooLong},
		{"a length above the greatest one with all bytes and its trailer", frameOf(zeros[:api.MaxPayload+1]), api.ErrTooLong},
		{"a length of 2^24", header(1 << 24), api.ErrTooLong},
		{"a negative length in 32 bits", header(1 << 31), api.ErrTooLong},
		{"a length of -4 in 32 bits", join(header(1<<32-4), zeros), api.ErrTooLong},
		{"a length of -8 in 32 bits", join(header(1<<32-8), zeros), api.ErrTooLong},
		{"a length of -1 in 32 bits", header(1<<32 - 1), api.ErrTooLong},
		{"an empty payload without a trailer", header(0), api.ErrTruncated},
		{"an empty payload with three bytes of a false trailer", join(header(0), []byte{1, 2, 3}), api.ErrTruncated},
		{"an empty payload with a false trailer", join(header(0), []byte{1, 2, 3, 4}), api.ErrChecksum},
		{"a trailer with the least significant byte first", []byte{0, 0, 0, 0, 0xc7, 0x4b, 0x67, 0x48}, api.ErrChecksum},
		{"the checksum of the payload alone", join(header(1), []byte("a"), header(reference([]byte("a")))), api.ErrChecksum},
		{"a length that leaves a byte between payload and trailer", join(header(2), frames("abc")[4:]), api.ErrChecksum},
		{"the greatest length with a false trailer", join(header(api.MaxPayload), zeros), api.ErrChecksum},
	} {
		if p, n, e := Decode(x.b); len(p) != 0 || n != 0 || e != x.e {
			t.Errorf("%s: Decode returns %d bytes, %d, %v, want %v", x.name, len(p), n, e, x.e)
		}
	}
}

func TestDecodeReturnsFirstError(t *testing.T) {
	for name, stream := range streams() {
		for i := range stream {
			for _, b := range [][]byte{stream[i:], stream[:i]} {
				p, n, e := Decode(b)
				if want := firstError(b); e != want {
					t.Errorf("%s, cut at %d: Decode returns %v, want %v", name, i, e, want)
				}
				if e != api.OK && (len(p) != 0 || n != 0) {
					t.Errorf("%s, cut at %d: Decode returns %v, %d with %v", name, i, p, n, e)
				}
			}
		}
	}
}

func TestPrefixesOfFramesAreTruncated(t *testing.T) {
	for _, n := range []int{0, 1, 5, 300} {
		f := frameOf(text(n))
		for i := range f {
			if p, size, e := Decode(f[:i]); len(p) != 0 || size != 0 || e != api.ErrTruncated {
				t.Errorf("Decode of %d bytes of %d returns %v, %d, %v", i, len(f), p, size, e)
			}
		}
	}
	f := frameOf(text(api.MaxPayload))
	if _, _, e := Decode(f[:len(f)-1]); e != api.ErrTruncated {
		t.Errorf("Decode of the longest frame without its last byte returns %v", e)
	}
}

// P2.4

func TestFeedStreams(t *testing.T) {
	for name, stream := range streams() {
		s, l := Feed(Splitter{}, stream)
		wantS, wantL := expect(stream)
		if !sameSplitter(s, wantS) || !samePayloads(l, wantL) {
			t.Errorf("%s: Feed returns %v, %q, want %v, %q", name, s, l, wantS, wantL)
		}
	}
}

func TestFeedExamples(t *testing.T) {
	torn := frames("torn")
	bad := flip(frames("bad"), 33)
	for _, x := range []struct {
		name     string
		s        Splitter
		b        []byte
		want     Splitter
		payloads [][]byte
	}{
		{"nothing at all", Splitter{}, nil, Splitter{}, nil},
		{"an empty payload", Splitter{}, frames(""), Splitter{}, [][]byte{{}}},
		{"no more bytes", Splitter{Buffer: torn[:5]}, nil, Splitter{Buffer: torn[:5]}, nil},
		{"not enough bytes", Splitter{Buffer: torn[:5]}, torn[5:11], Splitter{Buffer: torn[:11]}, nil},
		{"the last byte", Splitter{Buffer: torn[:11]}, torn[11:], Splitter{}, [][]byte{[]byte("torn")}},
		{"the last byte and another frame", Splitter{Buffer: torn[:11]}, join(torn[11:], frames("more")), Splitter{}, [][]byte{[]byte("torn"), []byte("more")}},
		{"frames in the buffer", Splitter{Buffer: frames("a", "b")}, nil, Splitter{}, [][]byte{[]byte("a"), []byte("b")}},
		{"frames in the buffer and a part", Splitter{Buffer: frames("a")}, torn[:2], Splitter{Buffer: torn[:2]}, [][]byte{[]byte("a")}},
		{"a bad frame in the buffer", Splitter{Buffer: bad}, frames("a"), Splitter{Failed: api.ErrChecksum}, nil},
		{"a bad frame behind a good one", Splitter{}, join(frames("a"), bad, frames("b")), Splitter{Failed: api.ErrChecksum}, [][]byte{[]byte("a")}},
		{"a header that becomes too long", Splitter{Buffer: []byte{0, 1}}, []byte{0, 1}, Splitter{Failed: api.ErrTooLong}, nil},
		{"a long header behind a good frame", Splitter{}, join(frames("a"), header(1<<30)), Splitter{Failed: api.ErrTooLong}, [][]byte{[]byte("a")}},
	} {
		s, l := Feed(x.s, x.b)
		if !sameSplitter(s, x.want) || !samePayloads(l, x.payloads) {
			t.Errorf("%s: Feed returns %v, %q, want %v, %q", x.name, s, l, x.want, x.payloads)
		}
	}
}

func TestFeedOfFailedSplitter(t *testing.T) {
	for _, failed := range []api.Errno{api.ErrTruncated, api.ErrTooLong, api.ErrChecksum, api.ErrGap, -1, 1 << 30} {
		for _, buffer := range [][]byte{nil, {1}, frames("in the buffer")} {
			for _, b := range [][]byte{nil, frames("a"), {255, 255, 255, 255}} {
				s, l := Feed(Splitter{Buffer: buffer, Failed: failed}, b)
				if len(l) != 0 || len(s.Buffer) != 0 || s.Failed != failed {
					t.Errorf("Feed of a splitter with %v and %q returns %v, %q", failed, buffer, s, l)
				}
			}
		}
	}
}

// P2.5

// feedAll feeds pieces one after the other, beginning with the zero splitter.
func feedAll(pieces ...[]byte) (Splitter, [][]byte) {
	var s Splitter
	var all [][]byte
	for _, b := range pieces {
		next, l := Feed(s, b)
		s, all = next, append(all, l...)
	}
	return s, all
}

func TestPiecesLeadToTheSame(t *testing.T) {
	for name, stream := range streams() {
		wantS, wantL := expect(stream)
		for size := 1; size <= len(stream); size++ {
			s, l := feedAll(slices.Collect(slices.Chunk(stream, size))...)
			if !sameSplitter(s, wantS) || !samePayloads(l, wantL) {
				t.Errorf("%s in pieces of %d: Feed returns %v, %q, want %v, %q", name, size, s, l, wantS, wantL)
			}
		}
	}
}

func TestTwoCutsLeadToTheSame(t *testing.T) {
	for name, stream := range streams() {
		if len(stream) > 100 {
			continue
		}
		wantS, wantL := expect(stream)
		for i := range stream {
			for j := i; j <= len(stream); j++ {
				s, l := feedAll(stream[:i], nil, stream[i:j], stream[j:])
				if !sameSplitter(s, wantS) || !samePayloads(l, wantL) {
					t.Errorf("%s cut at %d and %d: Feed returns %v, %q, want %v, %q", name, i, j, s, l, wantS, wantL)
				}
			}
		}
	}
}

func TestLongStreams(t *testing.T) {
	var stream []byte
	for len(stream) < 1<<22 {
		for _, n := range lengths() {
			stream = append(stream, frameOf(text(n))...)
		}
	}
	wantS, wantL := expect(stream)
	for _, size := range []int{4096, 65536, 65537, len(stream)} {
		s, l := feedAll(slices.Collect(slices.Chunk(stream, size))...)
		if !sameSplitter(s, wantS) || !samePayloads(l, wantL) {
			t.Errorf("in pieces of %d bytes: Feed returns %d bytes, %v and %d payloads, want %d payloads", size, len(s.Buffer), s.Failed, len(l), len(wantL))
		}
	}
}

func TestChangedBitIsFound(t *testing.T) {
	for _, n := range []int{0, 1, 2, 9, 100} {
		f := frameOf(text(n))
		for bit := 4 * 8; bit < len(f)*8; bit++ {
			if p, size, e := Decode(flip(f, bit)); len(p) != 0 || size != 0 || e != api.ErrChecksum {
				t.Errorf("bit %d of the frame of %d bytes changed: Decode returns %v, %d, %v", bit, n, p, size, e)
			}
		}
	}
	f := frameOf(text(api.MaxPayload))
	last := len(f)*8 - 1
	for _, bit := range []int{32, 33, 39, 40, last / 3, last / 2, last - 32, last - 31, last - 1, last} {
		if p, size, e := Decode(flip(f, bit)); len(p) != 0 || size != 0 || e != api.ErrChecksum {
			t.Errorf("bit %d of the longest frame changed: Decode returns %d bytes, %d, %v", bit, len(p), size, e)
		}
	}
}

func TestFramesDecode(t *testing.T) {
	for _, n := range lengths() {
		f, _ := Append([]byte("before"), text(n))
		f, _ = Append(f, []byte("next"))
		if p, size, e := Decode(f[6:]); !bytes.Equal(p, text(n)) || size != n+8 || e != api.OK {
			t.Errorf("the frame of %d bytes decodes to %d bytes, %d, %v", n, len(p), size, e)
		}
	}
}

// accepted checks that Decode either fails as P2.3 says, or consumes exactly the frame of the payload that it returns.
func accepted(t *testing.T, b []byte) {
	t.Helper()
	p, n, e := Decode(b)
	if want := firstError(b); e != want {
		t.Errorf("Decode(%v) returns %v, want %v", b, e, want)
	}
	if e != api.OK {
		return
	}
	if f, e := Append(nil, p); e != api.OK || !bytes.Equal(f, b[:n]) {
		t.Errorf("Decode(%v) = %v, %d: it consumes another frame", b, p, n)
	}
}

func FuzzStreams(f *testing.F) {
	for _, stream := range streams() {
		f.Add(stream, 3)
	}
	f.Fuzz(func(t *testing.T, stream []byte, cut int) {
		before := bytes.Clone(stream)
		accepted(t, stream)
		cut = min(max(cut, 0), len(stream))
		s, l := feedAll(stream[:cut], stream[cut:])
		wantS, wantL := expect(stream)
		if !sameSplitter(s, wantS) || !samePayloads(l, wantL) {
			t.Errorf("%v cut at %d: Feed returns %v, %v, want %v, %v", stream, cut, s, l, wantS, wantL)
		}
		if !bytes.Equal(stream, before) {
			t.Errorf("the stream has changed from %v to %v", before, stream)
		}
	})
}

// R2

// overwrite changes all bytes of b, and those behind it that an append could reach.
func overwrite(b []byte) {
	b = b[:cap(b)]
	for i := range b {
		b[i] ^= 0xff
	}
}

func TestAppendReturnsNewMemory(t *testing.T) {
	for _, payload := range []string{"", "payload", string(text(5000))} {
		room := make([]byte, 3+len(payload)+20)
		dst, src := room[:3], []byte(payload)
		want := join(make([]byte, 3), frameOf(src))
		first, _ := Append(dst, src)
		second, _ := Append(dst, src)
		if !bytes.Equal(room, make([]byte, len(room))) || string(src) != payload {
			t.Errorf("Append has written into its arguments: %q, %q", room, src)
		}
		overwrite(room)
		overwrite(src)
		if !bytes.Equal(first, want) {
			t.Errorf("Append: the result has changed with the arguments")
		}
		overwrite(first)
		if !bytes.Equal(second, want) {
			t.Errorf("Append: a result has changed with another one")
		}
	}
}

func TestDecodeReturnsNewMemory(t *testing.T) {
	b := frames("payload")
	first, _, _ := Decode(b)
	second, _, _ := Decode(b)
	if !bytes.Equal(b, frames("payload")) {
		t.Errorf("Decode has written into its argument: %q", b)
	}
	overwrite(b)
	overwrite(first)
	if string(second) != "payload" {
		t.Errorf("the payload has become %q", second)
	}
}

func TestFeedReturnsNewMemory(t *testing.T) {
	stream := frames("one", "two", "three")
	for _, cut := range []int{0, 4, 11, len(stream) - 1, len(stream)} {
		for end := cut; end <= len(stream); end++ {
			// Both parts have room behind them into which an append could write, with other bytes than it would write.
			room, more := join(stream[:cut], make([]byte, len(stream))), join(stream[cut:end], make([]byte, len(stream)))
			roomBefore, moreBefore := bytes.Clone(room), bytes.Clone(more)
			s, b := Splitter{Buffer: room[:cut]}, more[:end-cut]
			wantS, wantL := expect(stream[:end])
			got, l := Feed(s, b)
			again, m := Feed(s, b)
			if !bytes.Equal(room, roomBefore) || !bytes.Equal(more, moreBefore) {
				t.Fatalf("Feed has written into its arguments: %q, %q", room, more)
			}
			overwrite(room)
			overwrite(more)
			overwrite(got.Buffer)
			for i, p := range l {
				if !bytes.Equal(p, wantL[i]) {
					t.Fatalf("cut at %d and %d: payload %d has become %q", cut, end, i, p)
				}
				overwrite(p)
			}
			if !sameSplitter(again, wantS) || !samePayloads(m, wantL) {
				t.Fatalf("cut at %d and %d: a result has become %v, %q", cut, end, again, m)
			}
		}
	}
}

func TestPayloadsDoNotReachTheBuffer(t *testing.T) {
	s, l := Feed(Splitter{}, join(frames("one"), frames("two")[:7]))
	overwrite(l[0])
	if !bytes.Equal(s.Buffer, frames("two")[:7]) {
		t.Errorf("the buffer has become %q", s.Buffer)
	}
}

// R5

func TestNilIsEmpty(t *testing.T) {
	empty := []byte{}
	if Checksum(nil) != Checksum(empty) {
		t.Errorf("Checksum(nil) = %08X and Checksum of no bytes = %08X", Checksum(nil), Checksum(empty))
	}
	for _, dst := range [][]byte{nil, empty} {
		for _, payload := range [][]byte{nil, empty} {
			if f, e := Append(dst, payload); !bytes.Equal(f, frames("")) || e != api.OK {
				t.Errorf("the frame of no bytes is %v, %v", f, e)
			}
			if s, l := Feed(Splitter{Buffer: dst}, payload); !sameSplitter(s, Splitter{}) || len(l) != 0 {
				t.Errorf("Feed of no bytes returns %v, %v", s, l)
			}
		}
		if p, n, e := Decode(dst); len(p) != 0 || n != 0 || e != api.ErrTruncated {
			t.Errorf("Decode of no bytes returns %v, %d, %v", p, n, e)
		}
	}
}
