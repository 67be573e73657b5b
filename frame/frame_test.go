package frame_test

import (
	"bytes"
	"errors"
	"hash/crc32"
	"slices"
	"testing"

	"portage/api"
	"portage/fault"
	"portage/frame"
)

// counting is so many bytes, no two neighbours alike, and none of them 0.
func counting(n int) []byte {
	b := make([]byte, n)
	for i := range b {
		b[i] = byte(1 + i%251)
	}
	return b
}

// roomy is a copy of b with spare room, filled with 0xee.
func roomy(b []byte) []byte {
	all := bytes.Repeat([]byte{0xee}, len(b)+16)
	copy(all, b)
	return all[:len(b)]
}

// overwrite turns every bit of b, its spare room too.
func overwrite(b []byte) {
	all := b[:cap(b)]
	for i := range all {
		all[i] = ^all[i]
	}
}

// sealed is a sector with these bytes ahead and a right sum, whatever its form.
func sealed(ahead ...byte) []byte {
	b := make([]byte, api.Sector)
	copy(b[:api.Sector-4], ahead)
	return seal(b)
}

// seal lays the right sum at the end of a sector.
func seal(b []byte) []byte {
	s := crc32.ChecksumIEEE(b[:api.Sector-4])
	copy(b[api.Sector-4:], []byte{byte(s >> 24), byte(s >> 16), byte(s >> 8), byte(s)})
	return b
}

// wantCode demands that err is just that code, and no fault around it.
func wantCode(t *testing.T, what string, err error, code api.Code) {
	t.Helper()
	if err != error(code) || !errors.Is(err, code) {
		t.Errorf("%s: %v, not %v", what, err, code)
	}
	if c, ok := fault.CodeOf(err); c != code || !ok {
		t.Errorf("%s: CodeOf: %v, %t, not %v", what, c, ok, code)
	}
}

// wantRefused demands that Get tells that code alone, and Kind nothing.
func wantRefused(t *testing.T, what string, kind byte, sector []byte, code api.Code) {
	t.Helper()
	p, err := frame.Get(kind, sector)
	wantCode(t, what, err, code)
	if len(p) != 0 {
		t.Errorf("%s: Get tells %x beside an error", what, p)
	}
	if code == api.ErrKind {
		return
	}
	if k, ok := frame.Kind(sector); k != 0 || ok {
		t.Errorf("%s: Kind: %d, %t", what, k, ok)
	}
}

func TestP2_1Sum(t *testing.T) {
	if s := frame.Sum([]byte("123456789")); s != 0xcbf43926 {
		t.Errorf("Sum of 123456789: %x", s)
	}
	for b := range 256 {
		one := []byte{byte(b)}
		if s, want := frame.Sum(one), crc32.ChecksumIEEE(one); s != want {
			t.Errorf("Sum of the byte %d: %x, not %x", b, s, want)
		}
	}
	for _, n := range []int{0, 1, 2, 3, 4, 7, 8, 124, 128, 1000, 1 << 16} {
		for _, b := range [][]byte{counting(n), make([]byte, n), bytes.Repeat([]byte{0xff}, n)} {
			if s, want := frame.Sum(b), crc32.ChecksumIEEE(b); s != want {
				t.Errorf("Sum of %d bytes: %x, not %x", n, s, want)
			}
		}
	}
}

func TestP2_1SumOfNothing(t *testing.T) {
	for _, parts := range [][][]byte{nil, {}, {nil}, {{}}, {nil, {}, nil}} {
		if s := frame.Sum(parts...); s != 0 {
			t.Errorf("Sum of %v: %x, not 0", parts, s)
		}
	}
	if s := frame.Sum(); s != 0 {
		t.Errorf("Sum(): %x, not 0", s)
	}
}

func TestP2_1SumOfParts(t *testing.T) {
	b := counting(40)
	want := crc32.ChecksumIEEE(b)
	for i := range len(b) + 1 {
		for j := i; j <= len(b); j++ {
			if s := frame.Sum(b[:i], b[i:j], b[j:]); s != want {
				t.Errorf("Sum cut at %d and %d: %x, not %x", i, j, s, want)
			}
			if s := frame.Sum(nil, b[:i], []byte{}, b[i:j], nil, b[j:], nil); s != want {
				t.Errorf("Sum cut at %d and %d, with empty parts: %x, not %x", i, j, s, want)
			}
		}
	}
	if s := frame.Sum(slices.Collect(slices.Chunk(b, 1))...); s != want {
		t.Errorf("Sum byte by byte: %x, not %x", s, want)
	}
	if frame.Sum(b[20:], b[:20]) == want {
		t.Errorf("Sum of swapped parts is that of the parts in their order")
	}
}

func TestP2_2PutExample(t *testing.T) {
	b, err := frame.Put(3, []byte{1, 2})
	if err != nil || !bytes.Equal(b, sealed(3, 2, 1, 2)) {
		t.Errorf("Put(3, 01 02): %x, %v", b, err)
	}
}

func TestP2_2PutThenGet(t *testing.T) {
	for n := range api.Payload + 1 {
		payload := counting(n)
		b, err := frame.Put(9, payload)
		if want := sealed(append([]byte{9, byte(n)}, payload...)...); err != nil || !bytes.Equal(b, want) {
			t.Errorf("Put of %d bytes: %x, %v, not %x", n, b, err, want)
			continue
		}
		if p, err := frame.Get(9, b); err != nil || !bytes.Equal(p, payload) {
			t.Errorf("Get of %d bytes: %x, %v", n, p, err)
		}
		if k, ok := frame.Kind(b); k != 9 || !ok {
			t.Errorf("Kind of %d bytes: %d, %t", n, k, ok)
		}
	}
}

func TestP2_2PutPayloadsEndInNoughts(t *testing.T) {
	for _, n := range []int{0, 1, 5, api.Payload} {
		b, err := frame.Put(0, make([]byte, n))
		if err != nil {
			t.Fatalf("Put of %d noughts: %v", n, err)
		}
		if p, err := frame.Get(0, b); err != nil || len(p) != n || !bytes.Equal(p, make([]byte, n)) {
			t.Errorf("Get of %d noughts: %x, %v", n, p, err)
		}
	}
}

func TestP2_2PutNil(t *testing.T) {
	b, err := frame.Put(7, nil)
	if err != nil || !bytes.Equal(b, sealed(7)) {
		t.Errorf("Put of nil: %x, %v", b, err)
	}
	if p, err := frame.Get(7, b); err != nil || len(p) != 0 {
		t.Errorf("Get of an empty payload: %x, %v", p, err)
	}
}

func TestP2_2PutTooLong(t *testing.T) {
	for _, n := range []int{api.Payload + 1, api.Sector, 255, 256, 257, 1 << 16} {
		b, err := frame.Put(3, make([]byte, n))
		wantCode(t, "Put of too many bytes", err, api.ErrLong)
		if len(b) != 0 {
			t.Errorf("Put of %d bytes tells %x beside an error", n, b)
		}
	}
}

func TestP2_2Kinds(t *testing.T) {
	for kind := range 256 {
		b, err := frame.Put(byte(kind), []byte{5})
		if err != nil || !bytes.Equal(b, sealed(byte(kind), 1, 5)) {
			t.Errorf("Put of the kind %d: %x, %v", kind, b, err)
			continue
		}
		if k, ok := frame.Kind(b); int(k) != kind || !ok {
			t.Errorf("Kind of the kind %d: %d, %t", kind, k, ok)
		}
		for other := range 256 {
			if other != kind {
				wantRefused(t, "another kind", byte(other), b, api.ErrKind)
			}
		}
		if p, err := frame.Get(byte(kind), b); err != nil || !bytes.Equal(p, []byte{5}) {
			t.Errorf("Get of the kind %d: %x, %v", kind, p, err)
		}
	}
}

func TestP2_2GetSize(t *testing.T) {
	good := sealed(3, 2, 1, 2)
	wantRefused(t, "nil", 3, nil, api.ErrSize)
	for n := range 2 * api.Sector {
		if n != api.Sector {
			wantRefused(t, "a size", 3, append(good, good...)[:n], api.ErrSize)
		}
	}
}

func TestP2_2GetSum(t *testing.T) {
	for _, good := range [][]byte{sealed(3, 2, 1, 2), sealed(3), sealed(append([]byte{3, api.Payload}, counting(api.Payload)...)...)} {
		for bit := range 8 * api.Sector {
			b := bytes.Clone(good)
			b[bit/8] ^= 1 << (bit % 8)
			wantRefused(t, "a bit turned", 3, b, api.ErrSum)
		}
	}
	wantRefused(t, "noughts", 0, make([]byte, api.Sector), api.ErrSum)
	wantRefused(t, "ones", 255, bytes.Repeat([]byte{255}, api.Sector), api.ErrSum)
}

func TestP2_2GetLength(t *testing.T) {
	for length := api.Payload + 1; length < 256; length++ {
		wantRefused(t, "a length above Payload", 3, sealed(3, byte(length)), api.ErrForm)
		full := append([]byte{3, byte(length)}, counting(api.Payload)...)
		wantRefused(t, "a length above Payload", 3, sealed(full...), api.ErrForm)
	}
}

func TestP2_2GetNoughts(t *testing.T) {
	for length := range api.Payload {
		for at := 2 + length; at < api.Sector-4; at++ {
			b := sealed(append([]byte{3, byte(length)}, counting(length)...)...)
			b[at] = byte(1 << (at % 8))
			wantRefused(t, "a byte behind the payload", 3, seal(b), api.ErrForm)
		}
	}
}

func TestP2_2GetOrder(t *testing.T) {
	bad := sealed(3, 1, 5, 6) // a byte behind its payload
	wantRefused(t, "the form alone", 3, bad, api.ErrForm)
	if _, err := frame.Get(4, bad); err != error(api.ErrKind) {
		t.Errorf("another kind and a wrong form: %v", err)
	}
	if _, err := frame.Get(4, sealed(3, 255)); err != error(api.ErrKind) {
		t.Errorf("another kind and a wrong length: %v", err)
	}
	bad[api.Sector-1] ^= 1
	wantRefused(t, "a wrong sum, another kind and a wrong form", 4, bad, api.ErrSum)
	wantRefused(t, "a wrong sum and a wrong form", 3, bad, api.ErrSum)
	wantRefused(t, "all of them", 4, bad[:api.Sector-1], api.ErrSize)
	wantRefused(t, "all of them", 4, append(bad, 0), api.ErrSize)
}

func TestP2_5Frames(t *testing.T) {
	payload := roomy(counting(10))
	kept := bytes.Clone(payload[:cap(payload)])
	b, err := frame.Put(3, payload)
	b2, err2 := frame.Put(3, payload)
	if err != nil || err2 != nil || frame.Sum(payload, payload[:3]) == 0 {
		t.Fatalf("Put: %v, %v", err, err2)
	}
	if !bytes.Equal(payload[:cap(payload)], kept) {
		t.Errorf("Put changes the payload: %x", payload[:cap(payload)])
	}
	overwrite(payload)
	want := sealed(append([]byte{3, 10}, counting(10)...)...)
	if !bytes.Equal(b, want) {
		t.Errorf("Put keeps the payload: %x", b)
	}
	overwrite(b)
	if !bytes.Equal(b2, want) {
		t.Errorf("two answers of Put share memory: %x", b2)
	}
	if !bytes.Equal(payload[:cap(payload)], flipped(kept)) {
		t.Errorf("an answer of Put and the payload share memory: %x", payload[:cap(payload)])
	}
}

func flipped(b []byte) []byte {
	b = bytes.Clone(b)
	overwrite(b)
	return b
}

func TestP2_5Payloads(t *testing.T) {
	for _, n := range []int{0, 1, 10, api.Payload} {
		sector := roomy(sealed(append([]byte{3, byte(n)}, counting(n)...)...))
		kept := bytes.Clone(sector[:cap(sector)])
		p, err := frame.Get(3, sector)
		p2, err2 := frame.Get(3, sector)
		if k, ok := frame.Kind(sector); err != nil || err2 != nil || k != 3 || !ok {
			t.Fatalf("Get: %v, %v; Kind: %d, %t", err, err2, k, ok)
		}
		if !bytes.Equal(sector[:cap(sector)], kept) {
			t.Errorf("Get or Kind changes the sector: %x", sector[:cap(sector)])
		}
		overwrite(p)
		if !bytes.Equal(sector[:cap(sector)], kept) {
			t.Errorf("Get's answer and the sector share memory: %x", sector[:cap(sector)])
		}
		overwrite(sector)
		if !bytes.Equal(p2, counting(n)) {
			t.Errorf("Get's answer shares memory: %x", p2)
		}
	}
}
