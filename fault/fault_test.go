package fault_test

import (
	"errors"
	"fmt"
	"math"
	"slices"
	"strconv"
	"strings"
	"testing"

	"portage/api"
	"portage/fault"
)

// nested is the most that the document promises to be nested.
const nested = 1 << 16

var errPlain = errors.New("plain")

// sample is an error with what the calls must tell of it.
type sample struct {
	name            string
	err             error
	code            api.Code
	hasCode         bool
	device, place   int // of the first fault
	device2, place2 int // of the last fault
	path            []string
}

func samples() []sample {
	read := fault.Wrap("read", 1, 7, api.ErrRead)
	open := fault.Wrap("open", 0, 0, read)
	bare := &fault.Fault{Op: "bare", Device: 3, Place: 4}
	return []sample{
		{name: "nil"},
		{name: "code", err: api.ErrFull, code: api.ErrFull, hasCode: true},
		{name: "code 0", err: api.Code(0), hasCode: true},
		{name: "code below 0", err: api.Code(-5), code: -5, hasCode: true},
		{name: "fault", err: read, code: api.ErrRead, hasCode: true, device: 1, place: 7, device2: 1, place2: 7, path: []string{"read"}},
		{name: "two faults", err: open, code: api.ErrRead, hasCode: true, device2: 1, place2: 7, path: []string{"open", "read"}},
		{name: "three faults", err: fault.Wrap("open", -2, -9, open), code: api.ErrRead, hasCode: true, device: -2, place: -9, device2: 1, place2: 7, path: []string{"open", "open", "read"}},
		{name: "around code 0", err: fault.Wrap("", 5, 6, api.Code(0)), hasCode: true, device: 5, place: 6, device2: 5, place2: 6, path: []string{""}},
		{name: "bare", err: bare, device: 3, place: 4, device2: 3, place2: 4, path: []string{"bare"}},
		{name: "around bare", err: fault.Wrap("mount", 8, 9, bare), device: 8, place: 9, device2: 3, place2: 4, path: []string{"mount", "bare"}},
		{name: "nothing set", err: &fault.Fault{}, path: []string{""}},
		{name: "plain", err: errPlain},
		{name: "around plain", err: fault.Wrap("close", 2, 1, errPlain), device: 2, place: 1, device2: 2, place2: 1, path: []string{"close"}},
	}
}

// chain is a chain of so many faults, around err: the i-th one has the Op, device and place i.
func chain(depth int, err error) error {
	for i := depth - 1; i >= 0; i-- {
		err = fault.Wrap(strconv.Itoa(i), i, -i, err)
	}
	return err
}

func TestP1_1Wrap(t *testing.T) {
	if err := fault.Wrap("read", 1, 7, nil); err != nil {
		t.Errorf("Wrap of nil: %v", err)
	}
	for _, inner := range []error{api.ErrRead, api.Code(0), fault.Wrap("in", 5, 6, api.ErrDown), &fault.Fault{Op: "bare"}, errPlain} {
		err := fault.Wrap("read", -1, math.MaxInt, inner)
		f, ok := err.(*fault.Fault)
		if !ok {
			t.Errorf("Wrap of %v: %T, not a fault", inner, err)
			continue
		}
		if *f != (fault.Fault{Op: "read", Device: -1, Place: math.MaxInt, Err: inner}) {
			t.Errorf("Wrap of %v: %+v", inner, *f)
		}
		if f.Unwrap() != inner || errors.Unwrap(err) != inner {
			t.Errorf("Unwrap: %v, not %v", f.Unwrap(), inner)
		}
	}
	if err := (&fault.Fault{Op: "bare"}).Unwrap(); err != nil {
		t.Errorf("Unwrap of a fault around nothing: %v", err)
	}
}

func TestP1_1Error(t *testing.T) {
	read := fault.Wrap("read", 1, 7, api.ErrRead)
	around := fault.Wrap("open", 0, 0, read)
	bare := &fault.Fault{Op: "x", Device: -1, Place: 2}
	extremes := strconv.Itoa(math.MinInt) + ":" + strconv.Itoa(math.MaxInt)
	for _, c := range []struct {
		err  error
		want string
	}{
		{read, "read 1:7: portage: error 21"},
		{around, "open 0:0: read 1:7: portage: error 21"},
		{fault.Wrap("a: b", -10, -20, around), "a: b -10:-20: open 0:0: read 1:7: portage: error 21"},
		{bare, "x -1:2"},
		{fault.Wrap("y", 3, -4, bare), "y 3:-4: x -1:2"},
		{&fault.Fault{}, " 0:0"},
		{fault.Wrap("", 0, 0, api.Code(0)), " 0:0: portage: error 0"},
		{fault.Wrap("e", math.MinInt, math.MaxInt, api.Code(-3)), "e " + extremes + ": portage: error -3"},
		{fault.Wrap("p", 1, 2, errPlain), "p 1:2: plain"},
		{fault.Wrap("p", 1, 2, errors.New("")), "p 1:2: "},
		{fault.Wrap("p", 1, 2, fmt.Errorf("between: %w", read)), "p 1:2: between: read 1:7: portage: error 21"},
	} {
		if got := c.err.Error(); got != c.want {
			t.Errorf("Error: %q, not %q", got, c.want)
		}
	}
}

func TestP1_2CodeOf(t *testing.T) {
	for _, s := range samples() {
		if code, ok := fault.CodeOf(s.err); code != s.code || ok != s.hasCode {
			t.Errorf("%s: CodeOf: %d, %t", s.name, code, ok)
		}
	}
}

func TestP1_2IsAny(t *testing.T) {
	other := api.Code(9999)
	for _, s := range samples() {
		for _, c := range []struct {
			codes []api.Code
			want  bool
		}{
			{nil, false},
			{[]api.Code{}, false},
			{[]api.Code{other}, false},
			{[]api.Code{other, other + 1, -other}, false},
			{[]api.Code{s.code}, s.hasCode},
			{[]api.Code{s.code, other}, s.hasCode},
			{[]api.Code{other, s.code}, s.hasCode},
			{[]api.Code{other, s.code, s.code, other}, s.hasCode},
		} {
			kept := slices.Clone(c.codes)
			if got := fault.IsAny(s.err, c.codes...); got != c.want {
				t.Errorf("%s: IsAny of %d: %t", s.name, c.codes, got)
			}
			if !slices.Equal(c.codes, kept) {
				t.Errorf("%s: IsAny changed %d to %d", s.name, kept, c.codes)
			}
		}
		if fault.IsAny(s.err) {
			t.Errorf("%s: IsAny of no codes", s.name)
		}
	}
}

func TestP1_3WhereAndDeepest(t *testing.T) {
	for _, s := range samples() {
		has := len(s.path) > 0
		if d, p, ok := fault.Where(s.err); d != s.device || p != s.place || ok != has {
			t.Errorf("%s: Where: %d, %d, %t", s.name, d, p, ok)
		}
		if d, p, ok := fault.Deepest(s.err); d != s.device2 || p != s.place2 || ok != has {
			t.Errorf("%s: Deepest: %d, %d, %t", s.name, d, p, ok)
		}
	}
}

func TestP1_3PathAndDepth(t *testing.T) {
	for _, s := range samples() {
		if l := fault.Path(s.err); !slices.Equal(l, s.path) {
			t.Errorf("%s: Path: %q", s.name, l)
		}
		if n := fault.Depth(s.err); n != len(s.path) {
			t.Errorf("%s: Depth: %d", s.name, n)
		}
	}
}

func TestP1_3PathIsNewMemory(t *testing.T) {
	err := chain(3, api.ErrRead)
	one, two := fault.Path(err), fault.Path(err)
	for i := range one[:cap(one)] {
		one[:cap(one)][i] = "changed"
	}
	want := []string{"0", "1", "2"}
	if !slices.Equal(two, want) || !slices.Equal(fault.Path(err), want) {
		t.Errorf("Path shares memory: %q, %q", two, fault.Path(err))
	}
}

func TestP1_4Is(t *testing.T) {
	for _, s := range samples() {
		for c := api.Code(-10); c < 200; c++ {
			code, ok := fault.CodeOf(s.err)
			want := s.hasCode && s.code == c
			if errors.Is(s.err, c) != want || (ok && code == c) != want {
				t.Errorf("%s: errors.Is of %d: %t; CodeOf: %d, %t", s.name, c, errors.Is(s.err, c), code, ok)
			}
		}
	}
}

func TestP1_4As(t *testing.T) {
	for _, s := range samples() {
		var code api.Code
		if ok := errors.As(s.err, &code); ok != s.hasCode || code != s.code {
			t.Errorf("%s: errors.As of a code: %d, %t", s.name, code, ok)
		}
		var f *fault.Fault
		ok := errors.As(s.err, &f)
		if ok != (len(s.path) > 0) {
			t.Errorf("%s: errors.As of a fault: %t", s.name, ok)
		}
		if ok && error(f) != s.err {
			t.Errorf("%s: errors.As found %v, not the first fault", s.name, f)
		}
	}
}

func TestP1_4ByChain(t *testing.T) {
	for _, depth := range []int{1, 2, 3, 17, 1000} {
		err := chain(depth, api.ErrSum)
		var f *fault.Fault
		if !errors.As(err, &f) || f.Op != "0" {
			t.Errorf("%d faults: errors.As: %v", depth, f)
		}
		if !errors.Is(err, api.ErrSum) || errors.Is(err, api.ErrKind) {
			t.Errorf("%d faults: errors.Is", depth)
		}
	}
}

// TestP1Deep: the calls end and tell the same at the deepest nesting that is promised.
func TestP1Deep(t *testing.T) {
	err := chain(nested, api.ErrRead)
	if n := fault.Depth(err); n != nested {
		t.Errorf("Depth: %d", n)
	}
	if d, p, ok := fault.Where(err); d != 0 || p != 0 || !ok {
		t.Errorf("Where: %d, %d, %t", d, p, ok)
	}
	if d, p, ok := fault.Deepest(err); d != nested-1 || p != 1-nested || !ok {
		t.Errorf("Deepest: %d, %d, %t", d, p, ok)
	}
	if c, ok := fault.CodeOf(err); c != api.ErrRead || !ok {
		t.Errorf("CodeOf: %d, %t", c, ok)
	}
	if !fault.IsAny(err, append(make([]api.Code, nested), api.ErrRead)...) || fault.IsAny(err, make([]api.Code, nested)...) {
		t.Errorf("IsAny")
	}
	path := fault.Path(err)
	if len(path) != nested {
		t.Fatalf("Path: %d Ops", len(path))
	}
	var want strings.Builder
	for i, op := range path {
		if op != strconv.Itoa(i) {
			t.Fatalf("Path: %q at %d", op, i)
		}
		fmt.Fprintf(&want, "%d %d:%d: ", i, i, -i)
	}
	want.WriteString("portage: error 21")
	if err.Error() != want.String() {
		t.Errorf("Error: a text of %d bytes, not the one of %d", len(err.Error()), want.Len())
	}
}

// TestP1NoPanic: nothing is promised of a nil fault but the calls do not panic at one, wherever it stands.
func TestP1NoPanic(t *testing.T) {
	var none *fault.Fault
	for _, err := range []error{none, fault.Wrap("around", 1, 2, none), errors.Join(none, errPlain)} {
		_ = err.Error()
		_ = errors.Unwrap(err)
		fault.CodeOf(err)
		fault.Where(err)
		fault.Deepest(err)
		fault.Path(err)
		fault.Depth(err)
		fault.IsAny(err, api.ErrRead)
		_ = fault.Wrap("more", 0, 0, err).Error()
	}
}
