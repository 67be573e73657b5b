// Package fault is layer 1: errors that say what was done and where, around the code that says what went wrong.
package fault

import (
	"errors"
	"slices"
	"strconv"
	"strings"

	"portage/api"
)

// Fault is an error around another one: what was done, at which device and place.
type Fault struct {
	Op            string
	Device, Place int
	Err           error
}

// Error tells the texts of the whole chain, the outermost first. It goes down the chain itself, for if each fault asked the next one for its text, the innermost text would be copied once for each fault around it.
func (f *Fault) Error() string {
	if f == nil {
		return ""
	}
	var text strings.Builder
	text.WriteString(f.head())
	for err := f.Err; err != nil; {
		text.WriteString(": ")
		inner := itself(err)
		if inner == nil {
			text.WriteString(err.Error())
			break
		}
		text.WriteString(inner.head())
		err = inner.Err
	}
	return text.String()
}

// head is a fault's own part of its text.
func (f *Fault) head() string {
	return f.Op + " " + strconv.Itoa(f.Device) + ":" + strconv.Itoa(f.Place)
}

// Unwrap tells what the fault is around; errors.Is and errors.As go down the chain by it.
func (f *Fault) Unwrap() error {
	if f == nil {
		return nil
	}
	return f.Err
}

// Wrap tells a fault around err, and nil for nil, so that a call may wrap whatever another one answered.
func Wrap(op string, device, place int, err error) error {
	if err == nil {
		return nil
	}
	return &Fault{Op: op, Device: device, Place: place, Err: err}
}

// CodeOf tells the code at the end of err's chain.
func CodeOf(err error) (api.Code, bool) {
	var code api.Code
	if !errors.As(err, &code) {
		return 0, false
	}
	return code, true
}

// Where tells the device and place of the first fault of err's chain.
func Where(err error) (device, place int, ok bool) {
	return first(err).where()
}

// Deepest tells the device and place of the last fault of err's chain.
func Deepest(err error) (device, place int, ok bool) {
	var last *Fault
	for f := first(err); f != nil; f = first(f.Err) {
		last = f
	}
	return last.where()
}

// Path tells the Ops of the faults of err's chain, from the first on.
func Path(err error) []string {
	var ops []string
	for f := first(err); f != nil; f = first(f.Err) {
		ops = append(ops, f.Op)
	}
	return ops
}

// Depth tells how many faults err's chain has.
func Depth(err error) int {
	depth := 0
	for f := first(err); f != nil; f = first(f.Err) {
		depth++
	}
	return depth
}

// IsAny tells whether err's code is one of codes. The code is looked up once, so that a deep chain is not gone down again for each of them.
func IsAny(err error, codes ...api.Code) bool {
	code, ok := CodeOf(err)
	return ok && slices.ContainsFunc(codes, func(c api.Code) bool { return errors.Is(code, c) })
}

// first tells the first fault of err's chain, nil if there is none.
func first(err error) *Fault {
	var f *Fault
	if !errors.As(err, &f) {
		return nil
	}
	return f
}

// itself tells the fault that err is, and nil if it is none: an error of another kind has a text of its own, even if it is around a fault.
func itself(err error) *Fault {
	f := first(err)
	if error(f) != err {
		return nil
	}
	return f
}

// where tells a fault's device and place; a nil fault has none.
func (f *Fault) where() (device, place int, ok bool) {
	if f == nil {
		return 0, 0, false
	}
	return f.Device, f.Place, true
}
