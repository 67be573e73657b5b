package frame

import (
	"bytes"

	"portage/api"
)

// How many bytes a number takes.
const (
	byteWidth  = 1
	shortWidth = 2
	wordWidth  = 4
	longWidth  = 8
)

// Packer puts numbers in bytes.
type Packer struct {
	packed  []byte
	spoiled bool
}

// Unpacker reads numbers from bytes.
type Unpacker struct {
	left    []byte
	spoiled bool
}

// NewPacker tells a packer with nothing in it.
func NewPacker() *Packer { return &Packer{} }

// Byte puts numbers in one byte each.
func (p *Packer) Byte(numbers ...int) *Packer { return p.put(byteWidth, numbers) }

// Short puts numbers in two bytes each.
func (p *Packer) Short(numbers ...int) *Packer { return p.put(shortWidth, numbers) }

// Word puts numbers in four bytes each.
func (p *Packer) Word(numbers ...int) *Packer { return p.put(wordWidth, numbers) }

// Long puts numbers in eight bytes each.
func (p *Packer) Long(numbers ...int) *Packer { return p.put(longWidth, numbers) }

// Bytes tells all that was put, unless a number did not fit.
func (p *Packer) Bytes() ([]byte, error) {
	if p.spoiled {
		return nil, api.ErrRange
	}
	return bytes.Clone(p.packed), nil
}

// put puts numbers of one width. One that does not fit spoils the packer for good, so what it has is let go.
func (p *Packer) put(width int, numbers []int) *Packer {
	for _, number := range numbers {
		if number < 0 || uint64(number) > greatest(width) {
			p.packed, p.spoiled = nil, true
		}
		if p.spoiled {
			break
		}
		p.packed = appendNumber(p.packed, width, uint64(number))
	}
	return p
}

// NewUnpacker tells an unpacker that reads b as it is now.
func NewUnpacker(b []byte) *Unpacker { return &Unpacker{left: bytes.Clone(b)} }

// Byte tells the next number, of one byte.
func (u *Unpacker) Byte() int { return u.next(byteWidth) }

// Short tells the next number, of two bytes.
func (u *Unpacker) Short() int { return u.next(shortWidth) }

// Word tells the next number, of four bytes.
func (u *Unpacker) Word() int { return u.next(wordWidth) }

// Long tells the next number, of eight bytes.
func (u *Unpacker) Long() int { return u.next(longWidth) }

// Rest tells all bytes that are left, and leaves none.
func (u *Unpacker) Rest() []byte {
	rest := bytes.Clone(u.left)
	u.left = nil
	return rest
}

// Done tells whether all was read, and every number was there.
func (u *Unpacker) Done() error {
	if u.spoiled || len(u.left) > 0 {
		return api.ErrForm
	}
	return nil
}

// next reads a number. One that is not there or too great spoils the unpacker: no bytes are left then, so that nothing can be read behind it.
func (u *Unpacker) next(width int) int {
	if len(u.left) < width {
		return u.spoil()
	}
	number := readNumber(u.left, width)
	if number > greatest(width) {
		return u.spoil()
	}
	u.left = u.left[width:]
	return int(number)
}

// spoil tells the 0 that a read answers from then on.
func (u *Unpacker) spoil() int {
	u.left, u.spoiled = nil, true
	return 0
}

// greatest tells the greatest number that may stand in so many bytes. A Long ends at 2^62 - 1, so that two of them can be added in an int.
func greatest(width int) uint64 {
	if width == longWidth {
		return 1<<62 - 1
	}
	return 1<<(8*width) - 1
}

// appendNumber puts a number behind b, its highest byte first: a wider number has its upper half ahead of one of the next width.
func appendNumber(b []byte, width int, number uint64) []byte {
	switch width {
	case longWidth:
		b = append(b, byte(number>>56), byte(number>>48), byte(number>>40), byte(number>>32))
		fallthrough
	case wordWidth:
		b = append(b, byte(number>>24), byte(number>>16))
		fallthrough
	case shortWidth:
		b = append(b, byte(number>>8))
		fallthrough
	default:
		b = append(b, byte(number))
	}
	return b
}

// readNumber reads a number from the first bytes of b, half by half as appendNumber puts it.
func readNumber(b []byte, width int) uint64 {
	var number uint64
	switch width {
	case longWidth:
		number = uint64(b[0])<<24 | uint64(b[1])<<16 | uint64(b[2])<<8 | uint64(b[3])
		b = b[longWidth-wordWidth:]
		fallthrough
	case wordWidth:
		number = number<<16 | uint64(b[0])<<8 | uint64(b[1])
		b = b[wordWidth-shortWidth:]
		fallthrough
	case shortWidth:
		number = number<<8 | uint64(b[0])
		b = b[shortWidth-byteWidth:]
		fallthrough
	default:
		number = number<<8 | uint64(b[0])
	}
	return number
}
