package frame_test

import (
	"bytes"
	"encoding/binary"
	"math"
	"slices"
	"testing"

	"portage/api"
	"portage/frame"
)

// width is one of the widths of numbers, with the calls that put and read it.
type width struct {
	name     string
	bytes    int
	greatest int
	put      func(p *frame.Packer, numbers ...int) *frame.Packer
	read     func(u *frame.Unpacker) int
}

func widths() []width {
	return []width{
		{"Byte", 1, 1<<8 - 1, (*frame.Packer).Byte, (*frame.Unpacker).Byte},
		{"Short", 2, 1<<16 - 1, (*frame.Packer).Short, (*frame.Unpacker).Short},
		{"Word", 4, 1<<32 - 1, (*frame.Packer).Word, (*frame.Unpacker).Word},
		{"Long", 8, 1<<62 - 1, (*frame.Packer).Long, (*frame.Unpacker).Long},
	}
}

// fitting is numbers that fit: the least and the greatest, every power of two and its neighbours, and bytes that are all different.
func (w width) fitting() []int {
	list := []int{0, w.greatest, w.greatest - 1, 0x0123456789abcdef & w.greatest, 0x3edcba9876543210 & w.greatest}
	for bit := range 62 {
		for _, n := range []int{1<<bit - 1, 1 << bit, 1<<bit + 1} {
			if n <= w.greatest {
				list = append(list, n)
			}
		}
	}
	return list
}

// wrong is numbers that do not fit.
func (w width) wrong() []int {
	list := []int{-1, -2, -128, -255, -256, -w.greatest, math.MinInt, math.MinInt + 1, w.greatest + 1, w.greatest + 2, math.MaxInt, math.MaxInt - 1}
	for bit := range 63 {
		if n := 1 << bit; n > w.greatest {
			list = append(list, n, n+1)
		}
	}
	return list
}

// packed is a number in the width's bytes.
func (w width) packed(number int) []byte {
	return binary.BigEndian.AppendUint64(nil, uint64(number))[8-w.bytes:]
}

// wantPacked demands that a packer has just these bytes.
func wantPacked(t *testing.T, what string, p *frame.Packer, want []byte) {
	t.Helper()
	if b, err := p.Bytes(); err != nil || !bytes.Equal(b, want) {
		t.Errorf("%s: %x, %v, not %x", what, b, err, want)
	}
}

// wantSpoiled demands that a packer refuses, and tells no bytes.
func wantSpoiled(t *testing.T, what string, p *frame.Packer) {
	t.Helper()
	b, err := p.Bytes()
	wantCode(t, what, err, api.ErrRange)
	if len(b) != 0 {
		t.Errorf("%s: Bytes tells %x beside an error", what, b)
	}
}

// wantNothing demands that an unpacker is spoiled.
func wantNothing(t *testing.T, what string, u *frame.Unpacker) {
	t.Helper()
	for range 2 {
		for _, w := range widths() {
			if n := w.read(u); n != 0 {
				t.Errorf("%s: %s behind it: %d", what, w.name, n)
			}
		}
		if b := u.Rest(); len(b) != 0 {
			t.Errorf("%s: Rest behind it: %x", what, b)
		}
		wantCode(t, what, u.Done(), api.ErrForm)
	}
}

func TestP2_3PutOne(t *testing.T) {
	wantPacked(t, "Word(258)", frame.NewPacker().Word(258), []byte{0, 0, 1, 2})
	wantPacked(t, "Long(258)", frame.NewPacker().Long(258), []byte{0, 0, 0, 0, 0, 0, 1, 2})
	wantPacked(t, "Short(258)", frame.NewPacker().Short(258), []byte{1, 2})
	wantPacked(t, "Byte(2)", frame.NewPacker().Byte(2), []byte{2})
	for _, w := range widths() {
		for _, n := range w.fitting() {
			wantPacked(t, w.name, w.put(frame.NewPacker(), n), w.packed(n))
		}
	}
}

func TestP2_3PutSeveral(t *testing.T) {
	for _, w := range widths() {
		var want []byte
		one := frame.NewPacker()
		for _, n := range w.fitting() {
			want = append(want, w.packed(n)...)
			w.put(one, n)
			wantPacked(t, w.name+" so far", one, want)
		}
		wantPacked(t, w.name+" at once", w.put(frame.NewPacker(), w.fitting()...), want)
	}
	all := frame.NewPacker().Byte(1, 2).Short(3).Long(4, 5).Word(6, 7).Byte().Byte(8)
	wantPacked(t, "all widths", all, []byte{1, 2, 0, 3, 0, 0, 0, 0, 0, 0, 0, 4, 0, 0, 0, 0, 0, 0, 0, 5, 0, 0, 0, 6, 0, 0, 0, 7, 8})
}

func TestP2_3PutNone(t *testing.T) {
	p := frame.NewPacker()
	wantPacked(t, "nothing put", p, nil)
	for _, w := range widths() {
		wantPacked(t, w.name+"()", w.put(p), nil)
		wantPacked(t, w.name+" of an empty list", w.put(p, []int{}...), nil)
	}
	p.Byte(9)
	for _, w := range widths() {
		wantPacked(t, w.name+"() behind a number", w.put(p), []byte{9})
	}
}

func TestP2_3TellsThePacker(t *testing.T) {
	p, other := frame.NewPacker(), frame.NewPacker()
	for _, w := range widths() {
		for _, numbers := range [][]int{nil, {1}, {1, 2}, {-1}, {3}} {
			if q := w.put(p, numbers...); q != p {
				t.Errorf("%s(%v) tells another packer", w.name, numbers)
			}
		}
	}
	wantPacked(t, "another packer", other, nil)
}

func TestP2_3WrongNumbers(t *testing.T) {
	for _, w := range widths() {
		for _, n := range w.wrong() {
			wantSpoiled(t, w.name+" alone", w.put(frame.NewPacker(), n))
			wantSpoiled(t, w.name+" first", w.put(frame.NewPacker(), n, 1, 2))
			wantSpoiled(t, w.name+" amidst", w.put(frame.NewPacker(), 1, n, 2))
			wantSpoiled(t, w.name+" last", w.put(frame.NewPacker(), 1, 2, n))
		}
	}
}

func TestP2_3WrongForGood(t *testing.T) {
	for _, w := range widths() {
		p := w.put(frame.NewPacker().Byte(1), -1)
		for _, v := range widths() {
			wantSpoiled(t, "none behind a wrong one", v.put(p))
			wantSpoiled(t, "right ones behind a wrong one", v.put(p, 1, 2))
			wantSpoiled(t, "wrong ones behind a wrong one", v.put(p, -1))
		}
	}
}

func TestP2_3BytesAgain(t *testing.T) {
	p := frame.NewPacker().Byte(1)
	wantPacked(t, "once", p, []byte{1})
	wantPacked(t, "twice", p, []byte{1})
	wantPacked(t, "with more", p.Short(2), []byte{1, 0, 2})
	wantSpoiled(t, "spoiled since", p.Byte(256))
}

func TestP2_4ReadOne(t *testing.T) {
	for _, w := range widths() {
		for _, n := range w.fitting() {
			u := frame.NewUnpacker(w.packed(n))
			wantCode(t, w.name+" not read yet", u.Done(), api.ErrForm)
			if got := w.read(u); got != n {
				t.Errorf("%s of %x: %d, not %d", w.name, w.packed(n), got, n)
			}
			if err := u.Done(); err != nil {
				t.Errorf("%s of %x: Done: %v", w.name, w.packed(n), err)
			}
		}
	}
}

func TestP2_4ReadSeveral(t *testing.T) {
	u := frame.NewUnpacker([]byte{7, 1, 2, 0, 0, 1, 2, 0x3f, 255, 255, 255, 255, 255, 255, 255, 255, 254, 9})
	got := []int{u.Byte(), u.Short(), u.Word(), u.Long(), u.Byte(), u.Byte(), u.Byte()}
	if want := []int{7, 258, 258, 1<<62 - 1, 255, 254, 9}; !slices.Equal(got, want) {
		t.Errorf("several numbers: %v, not %v", got, want)
	}
	if err := u.Done(); err != nil {
		t.Errorf("Done: %v", err)
	}
	if err := u.Done(); err != nil {
		t.Errorf("Done again: %v", err)
	}
}

func TestP2_4BytesLack(t *testing.T) {
	for _, w := range widths() {
		for n := range w.bytes {
			u := frame.NewUnpacker(counting(n))
			if got := w.read(u); got != 0 {
				t.Errorf("%s of %d bytes: %d", w.name, n, got)
			}
			wantNothing(t, w.name, u)
			u = frame.NewUnpacker(counting(3 + n))
			if b, s := u.Byte(), u.Short(); b != 1 || s != 0x0203 {
				t.Errorf("ahead of %s: %d, %d", w.name, b, s)
			}
			if got := w.read(u); got != 0 {
				t.Errorf("%s of %d bytes that are left: %d", w.name, n, got)
			}
			wantNothing(t, w.name, u)
		}
	}
}

func TestP2_4LackTellsDone(t *testing.T) {
	for _, w := range widths() {
		u := frame.NewUnpacker(nil)
		if err := u.Done(); err != nil {
			t.Errorf("Done of no bytes: %v", err)
		}
		w.read(u)
		wantCode(t, w.name, u.Done(), api.ErrForm)
		u = frame.NewUnpacker(counting(w.bytes - 1))
		w.read(u)
		u.Rest()
		wantCode(t, w.name+" and Rest", u.Done(), api.ErrForm)
	}
}

func TestP2_4LongTooGreat(t *testing.T) {
	list := []uint64{1 << 62, 1<<62 + 1, 1<<63 - 1, 1 << 63, 1<<63 + 1, 1<<64 - 1, 1<<63 + 1<<62}
	for _, n := range list {
		for _, tail := range []int{0, 20} {
			b := append(binary.BigEndian.AppendUint64([]byte{5}, n), counting(tail)...)
			u := frame.NewUnpacker(b)
			if got := u.Byte(); got != 5 {
				t.Errorf("ahead of a Long: %d", got)
			}
			if got := u.Long(); got != 0 {
				t.Errorf("Long of %x: %d", n, got)
			}
			wantNothing(t, "a Long too great", u)
		}
	}
}

func TestP2_4Rest(t *testing.T) {
	for n := range 20 {
		b := counting(n)
		for read := range n + 1 {
			u := frame.NewUnpacker(b)
			for i := range read {
				if got := u.Byte(); got != int(b[i]) {
					t.Errorf("the byte %d: %d", i, got)
				}
			}
			if err := u.Done(); (err == nil) != (read == n) {
				t.Errorf("Done with %d of %d read: %v", read, n, err)
			}
			if got := u.Rest(); !bytes.Equal(got, b[read:]) {
				t.Errorf("Rest of %d with %d read: %x", n, read, got)
			}
			if err := u.Done(); err != nil {
				t.Errorf("Done behind Rest: %v", err)
			}
			if got := u.Rest(); len(got) != 0 {
				t.Errorf("Rest again: %x", got)
			}
			if err := u.Done(); err != nil {
				t.Errorf("Done behind Rest and Rest: %v", err)
			}
			if got := u.Byte(); got != 0 {
				t.Errorf("Byte behind Rest: %d", got)
			}
			wantNothing(t, "a read behind Rest", u)
		}
	}
}

func TestP2_4DoneReadsNothing(t *testing.T) {
	u := frame.NewUnpacker([]byte{1, 2, 3})
	wantCode(t, "Done ahead", u.Done(), api.ErrForm)
	wantCode(t, "Done again", u.Done(), api.ErrForm)
	if b, s := u.Byte(), u.Short(); b != 1 || s != 0x0203 || u.Done() != nil {
		t.Errorf("behind Done: %d, %d, %v", b, s, u.Done())
	}
}

func TestP2_5Packer(t *testing.T) {
	numbers := []int{1, 2, 3}
	p := frame.NewPacker()
	for _, w := range widths() {
		w.put(p, numbers...)
	}
	if !slices.Equal(numbers, []int{1, 2, 3}) {
		t.Errorf("a packer changes the numbers: %v", numbers)
	}
	clear(numbers)
	want, err := p.Bytes()
	if err != nil || want[0] != 1 || want[len(want)-1] != 3 {
		t.Fatalf("a packer keeps the numbers: %x, %v", want, err)
	}
	want = bytes.Clone(want)
	for range 3 {
		b, _ := p.Bytes()
		b2, _ := p.Bytes()
		overwrite(b)
		if !bytes.Equal(b2, want) {
			t.Errorf("two answers of Bytes share memory: %x", b2)
		}
		wantPacked(t, "Bytes behind an answer that is written over", p, want)
		p.Byte(4)
		want = append(want, 4)
		if !bytes.Equal(b2, want[:len(b2)]) {
			t.Errorf("an answer changes with what is put: %x", b2)
		}
		b3, _ := p.Bytes()
		p.Long(5)
		overwrite(b3)
		want = append(want, 0, 0, 0, 0, 0, 0, 0, 5)
		wantPacked(t, "Bytes behind an answer whose room is written over", p, want)
	}
}

func TestP2_5Unpacker(t *testing.T) {
	b := roomy(counting(20))
	kept := bytes.Clone(b[:cap(b)])
	u, other := frame.NewUnpacker(b), frame.NewUnpacker(b)
	overwrite(b)
	if n, s, w, l := u.Byte(), u.Short(), u.Word(), u.Long(); n != 1 || s != 0x0203 || w != 0x04050607 || l != 0x08090a0b0c0d0e0f {
		t.Errorf("an unpacker keeps its bytes: %x, %x, %x, %x", n, s, w, l)
	}
	rest := u.Rest()
	if !bytes.Equal(rest, kept[15:20]) {
		t.Errorf("Rest: %x", rest)
	}
	overwrite(rest)
	if !bytes.Equal(b[:cap(b)], flipped(kept)) {
		t.Errorf("Rest and what was handed in share memory, or it was changed: %x", b[:cap(b)])
	}
	if all := other.Rest(); !bytes.Equal(all, kept[:20]) {
		t.Errorf("two unpackers share memory: %x", all)
	}
}
