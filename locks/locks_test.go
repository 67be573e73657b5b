package locks_test

import (
	"errors"
	"math"
	"slices"
	"testing"

	"portage/api"
	"portage/fault"
	"portage/locks"
)

// maxLen is the most blocks that a span may name.
const maxLen = 1 << 30

// read is a span that just reads.
func read(vol, from, length int) locks.Span { return locks.Span{Vol: vol, From: from, Len: length} }

// write is a span that writes.
func write(vol, from, length int) locks.Span {
	return locks.Span{Vol: vol, From: from, Len: length, Write: true}
}

// both are a span that reads, and the same one that writes.
func both(vol, from, length int) []locks.Span {
	return []locks.Span{read(vol, from, length), write(vol, from, length)}
}

// world is a table under test.
type world struct {
	*testing.T
	*locks.Table
}

func newWorld(t *testing.T) world { return world{T: t, Table: locks.New()} }

// add adds an entry with these spans, which is to get this number.
func (w world) add(number int, spans ...locks.Span) {
	w.Helper()
	if got, err := w.Add(spans...); got != number || err != nil {
		w.Fatalf("Add(%v): %d, %v, not %d", spans, got, err, number)
	}
}

// done lets entries be gone, one behind the other.
func (w world) done(numbers ...int) {
	w.Helper()
	for _, number := range numbers {
		if err := w.Done(number); err != nil {
			w.Fatalf("Done(%d): %v", number, err)
		}
	}
}

// wantError demands that err is this bare code.
func (w world) wantError(what string, err error, code api.Code) {
	w.Helper()
	var f *fault.Fault
	if err != error(code) || !errors.Is(err, code) || errors.As(err, &f) {
		w.Fatalf("%s: %v, not %v", what, err, code)
	}
}

// wantList demands that a call tells just these numbers, in this order.
func (w world) wantList(what string, got []int, want ...int) {
	w.Helper()
	if !slices.Equal(got, want) {
		w.Fatalf("%s: %v, not %v", what, got, want)
	}
}

func (w world) wantReady(numbers ...int) {
	w.Helper()
	w.wantList("Ready", w.Ready(), numbers...)
	// May tells of each one what Ready tells of all.
	for _, number := range append(w.Waiting(), strangers...) {
		if got := w.May(number); got != slices.Contains(numbers, number) {
			w.Fatalf("May(%d): %v, and Ready: %v", number, got, numbers)
		}
	}
}

func (w world) wantWaiting(numbers ...int) {
	w.Helper()
	w.wantList("Waiting", w.Waiting(), numbers...)
}

func (w world) wantAhead(number int, numbers ...int) {
	w.Helper()
	w.wantList("Ahead", w.Ahead(number), numbers...)
}

// strangers are numbers that no entry of these tests ever has.
var strangers = []int{math.MinInt, math.MinInt + 1, math.MinInt32, -1000, -2, -1, 0, 1 << 20, math.MaxInt32, math.MaxInt - 1, math.MaxInt}

// wantNot demands that there are no entries with these numbers, and that asking for them, or ending them, changes nothing.
func (w world) wantNot(numbers ...int) {
	w.Helper()
	waiting, ready := w.Waiting(), w.Ready()
	for _, number := range numbers {
		if w.May(number) {
			w.Fatalf("May(%d), and it is not there", number)
		}
		w.wantAhead(number)
		w.wantError("Done", w.Done(number), api.ErrTicket)
	}
	w.wantWaiting(waiting...)
	w.wantReady(ready...)
}

// wrong are spans that are not right, each of them but for one number.
func wrong() []locks.Span {
	var list []locks.Span
	for _, below := range []int{-1, -2, -maxLen, math.MinInt32, math.MinInt + 1, math.MinInt} {
		list = append(list, both(below, 0, 1)...)
		list = append(list, both(below, 0, 0)...)
		list = append(list, both(1, below, 1)...)
		list = append(list, both(1, below, 0)...)
		list = append(list, both(0, below, 0)...)
		list = append(list, both(1, 0, below)...)
		list = append(list, both(0, 0, below)...)
	}
	for _, above := range []int{maxLen + 1, maxLen + 2, math.MaxInt32, math.MaxInt32 + 1, math.MaxInt - 1, math.MaxInt} {
		list = append(list, both(1, 0, above)...)
		list = append(list, both(0, 0, above)...)
		list = append(list, both(1, math.MaxInt, above)...)
	}
	return append(list, write(-1, -1, -1), write(math.MinInt, math.MinInt, math.MinInt), write(math.MaxInt, math.MaxInt, math.MaxInt))
}

// ends are spans that are right, with numbers at the ends of what they may be.
func ends() []locks.Span {
	var list []locks.Span
	for _, vol := range []int{0, 1, math.MaxInt - 1, math.MaxInt} {
		for _, from := range []int{0, 1, maxLen, math.MaxInt - 1, math.MaxInt} {
			for _, length := range []int{0, 1, maxLen - 1, maxLen} {
				list = append(list, both(vol, from, length)...)
			}
		}
	}
	return list
}

// wantClash demands that spans clash, or do not, whichever is asked, if one of them writes, and never if both read.
func wantClash(t *testing.T, a, b locks.Span, meet bool) {
	t.Helper()
	for _, writes := range [][2]bool{{false, false}, {false, true}, {true, false}, {true, true}} {
		a.Write, b.Write = writes[0], writes[1]
		want := meet && (a.Write || b.Write)
		if a.Clash(b) != want || b.Clash(a) != want {
			t.Fatalf("%v, %v: Clash is %v, and %v the other way round, not %v", a, b, a.Clash(b), b.Clash(a), want)
		}
	}
}

func TestP15Example(t *testing.T) {
	w := newWorld(t)
	w.add(1, write(1, 0, 4))
	w.add(2, read(1, 3, 1))
	w.add(3, read(1, 4, 1))
	w.wantReady(1, 3)
	w.wantAhead(2, 1)
	w.done(1)
	w.wantReady(2, 3)
}

func TestP15_1ClashOfOneVolume(t *testing.T) {
	for _, c := range []struct {
		a, b locks.Span
		meet bool
	}{
		{read(1, 0, 2), read(1, 5, 2), false},
		{read(1, 0, 4), read(1, 5, 1), false},
		// They touch.
		{read(1, 0, 4), read(1, 4, 1), false},
		{read(1, 3, 1), read(1, 4, 1), false},
		{read(1, 0, maxLen), read(1, maxLen, 1), false},
		{read(1, 1, maxLen), read(1, maxLen+1, maxLen), false},
		{read(1, 1, maxLen), read(1, 0, 1), false},
		// They overlap.
		{read(1, 0, 4), read(1, 3, 1), true},
		{read(1, 0, 4), read(1, 3, 9), true},
		{read(1, 0, 4), read(1, 1, 4), true},
		{read(1, 0, maxLen), read(1, maxLen-1, 1), true},
		{read(1, 1, maxLen), read(1, maxLen, maxLen), true},
		// One is within the other.
		{read(1, 0, 4), read(1, 0, 1), true},
		{read(1, 0, 4), read(1, 1, 2), true},
		{read(1, 0, maxLen), read(1, 900, 1), true},
		{read(1, 4, 1), read(1, 4, 1), true},
		{read(math.MaxInt, 4, 1), read(math.MaxInt, 4, 1), true},
		{read(math.MaxInt, 4, 1), read(math.MaxInt, 5, 1), false},
	} {
		wantClash(t, c.a, c.b, c.meet)
	}
}

func TestP15_1ClashOfUnlikeVolumes(t *testing.T) {
	vols := []int{1, 2, 3, 7, api.MaxVolumes, 1 << 21, math.MaxInt - 1, math.MaxInt}
	for _, vol := range vols {
		for _, other := range vols {
			same := vol == other
			wantClash(t, read(vol, 0, 4), read(other, 0, 4), same)
			wantClash(t, read(vol, 3, 9), read(other, 5, 1), same)
			wantClash(t, read(vol, 0, 0), read(other, 0, 4), same)
			wantClash(t, read(vol, 0, 0), read(other, 9, 0), same)
			wantClash(t, read(vol, 0, 4), read(other, 4, 4), false)
		}
	}
}

func TestP15_1ClashOfWholeVolumes(t *testing.T) {
	for _, from := range []int{0, 1, 5, 900, maxLen, math.MaxInt - 1, math.MaxInt} {
		for _, s := range ends() {
			wantClash(t, read(1, from, 0), s, s.Vol == 0 || s.Vol == 1)
			wantClash(t, read(math.MaxInt, from, 0), s, s.Vol == 0 || s.Vol == math.MaxInt)
			wantClash(t, read(2, from, 0), s, s.Vol == 0)
		}
	}
}

func TestP15_1ClashOfAllVolumes(t *testing.T) {
	for _, all := range ends() {
		if all.Vol != 0 {
			continue
		}
		for _, s := range ends() {
			wantClash(t, all, s, true)
		}
	}
}

func TestP15_1ClashPastAllNumbers(t *testing.T) {
	const last = math.MaxInt
	for _, c := range []struct {
		a, b locks.Span
		meet bool
	}{
		{read(1, last, 5), read(1, last, 1), true},
		{read(1, last, maxLen), read(1, last, maxLen), true},
		{read(1, last, 5), read(1, last-1, 1), false},
		{read(1, last, 5), read(1, last-1, 2), true},
		{read(1, last-3, 5), read(1, last, 1), true},
		{read(1, last-3, 3), read(1, last, 1), false},
		{read(1, last-maxLen, maxLen), read(1, last, maxLen), false},
		{read(1, last-maxLen+1, maxLen), read(1, last, maxLen), true},
		// What is past all numbers does not come round to the first ones.
		{read(1, last, maxLen), read(1, 0, 1), false},
		{read(1, last, maxLen), read(1, 0, maxLen), false},
		{read(1, last-1, maxLen), read(1, 3, 1), false},
	} {
		wantClash(t, c.a, c.b, c.meet)
	}
}

func TestP15_1ClashWithItself(t *testing.T) {
	for _, s := range ends() {
		wantClash(t, s, s, true)
	}
	for _, s := range wrong() {
		wantClash(t, s, s, false)
	}
}

func TestP15_1ClashOfWrongSpans(t *testing.T) {
	others := append(ends(), wrong()...)
	others = append(others, both(1, 0, 1)...)
	others = append(others, locks.Span{}, locks.Span{Write: true})
	for _, s := range wrong() {
		for _, o := range others {
			wantClash(t, s, o, false)
		}
	}
}

// blocks are the blocks of a right span as bits, for the first eight blocks of the volumes 1 to 3. More of them make no difference to spans of the volumes 0 to 2 that end ahead of the ninth block, or have all.
func blocks(s locks.Span) uint32 {
	of := uint32(0)
	for vol := 1; vol <= 3; vol++ {
		for block := range 8 {
			within := s.Vol == 0 || s.Vol == vol && (s.Len == 0 || s.From <= block && block < s.From+s.Len)
			if within {
				of |= 1 << (8*(vol-1) + block)
			}
		}
	}
	return of
}

// small are all spans of the volumes 0 to 2, of up to four blocks from the first five on.
func small() []locks.Span {
	var list []locks.Span
	for vol := range 3 {
		for from := range 5 {
			for length := range 4 {
				list = append(list, both(vol, from, length)...)
			}
		}
	}
	return list
}

// TestP15_1ClashSmall holds Clash against the blocks that two spans have in common, near 0 and as near to the greatest number as may be.
func TestP15_1ClashSmall(t *testing.T) {
	for _, a := range small() {
		for _, b := range small() {
			want := blocks(a)&blocks(b) != 0 && (a.Write || b.Write)
			for _, base := range []int{0, 1, api.MaxBlocks - 2, maxLen - 2, math.MaxInt32 - 2, math.MaxInt - 6, math.MaxInt - 5, math.MaxInt - 4} {
				c, d := a, b
				c.From, d.From = a.From+base, b.From+base
				if c.Clash(d) != want {
					t.Fatalf("%v, %v: Clash is not %v", c, d, want)
				}
			}
		}
	}
}

func TestP15_1New(t *testing.T) {
	w := newWorld(t)
	w.wantWaiting()
	w.wantReady()
	w.wantNot(strangers...)
	w.wantNot(1, 2, 3)
	w.add(1)
}

func TestP15_1TablesApart(t *testing.T) {
	one, other := newWorld(t), newWorld(t)
	one.add(1, write(1, 0, 4))
	one.add(2, write(2, 0, 4))
	other.wantWaiting()
	other.add(1, write(1, 0, 4))
	other.wantReady(1)
	other.done(1)
	other.add(2, write(2, 0, 4))
	other.wantReady(2)
	one.wantReady(1, 2)
	one.add(3)
}

func TestP15_1AddOfNoSpans(t *testing.T) {
	w := newWorld(t)
	w.add(1)
	w.add(2, write(0, 0, 0))
	w.add(3)
	w.add(4, []locks.Span{}...)
	w.add(5, write(0, 0, 0))
	w.wantReady(1, 2, 3, 4)
	for _, number := range []int{1, 3, 4} {
		w.wantAhead(number)
	}
	w.wantAhead(5, 2)
	w.done(3)
	w.done(1)
	w.wantReady(2, 4)
}

func TestP15_1AddOfEnds(t *testing.T) {
	w := newWorld(t)
	w.add(1, ends()...)
	for i, s := range ends() {
		w.add(i+2, s)
		w.wantAhead(i+2, waitsFor(ends()[:i], s)...)
	}
}

// waitsFor are the numbers of the entry 1, and of those from 2 on with one of these spans each, with which a span that comes behind all of them clashes.
func waitsFor(spans []locks.Span, s locks.Span) []int {
	numbers := []int{1}
	for i, o := range spans {
		if s.Clash(o) {
			numbers = append(numbers, i+2)
		}
	}
	return numbers
}

func TestP15_1AddOfSeveral(t *testing.T) {
	w := newWorld(t)
	w.add(1, write(1, 0, 2), write(2, 0, 2), read(3, 0, 2))
	for i, s := range []locks.Span{read(1, 1, 1), read(2, 1, 1), write(3, 1, 1)} {
		w.add(i+2, s)
		w.wantAhead(i+2, 1)
	}
	for i, s := range []locks.Span{read(1, 2, 1), write(2, 2, 1), read(3, 0, 1), write(4, 0, 1)} {
		w.add(i+5, s)
		if !w.May(i + 5) {
			t.Fatalf("%v waits for %v", s, w.Ahead(i+5))
		}
	}
}

func TestP15_1AddOfWrongSpans(t *testing.T) {
	w := newWorld(t)
	refused := func(spans ...locks.Span) {
		t.Helper()
		waiting, ready := w.Waiting(), w.Ready()
		number, err := w.Add(spans...)
		w.wantError("Add", err, api.ErrRange)
		if number != 0 {
			t.Fatalf("Add(%v): the number %d beside an error", spans, number)
		}
		w.wantWaiting(waiting...)
		w.wantReady(ready...)
	}
	all := func() {
		for _, s := range wrong() {
			refused(s)
			refused(s, read(1, 0, 1))
			refused(read(1, 0, 1), s)
			refused(read(1, 0, 1), s, write(0, 0, 0))
			refused(write(1, 0, 1), write(2, 0, 1), write(3, 0, 1), s)
			refused(s, s)
		}
	}
	all()
	w.add(1, write(1, 0, 1))
	w.add(2, read(1, 0, 1))
	all()
	// No number is used up.
	w.add(3, read(0, 0, 0))
	w.wantAhead(3, 1)
	w.done(1)
	all()
	w.add(4)
	w.wantWaiting(2, 3, 4)
}

func TestP15_1NumbersRise(t *testing.T) {
	w := newWorld(t)
	for number := 1; number <= 50; number++ {
		w.add(number, write(1, number, 1))
	}
	for number := 50; number > 10; number-- {
		w.done(number)
	}
	w.add(51, write(1, 0, 1))
	w.done(51)
	w.add(52)
	for number := 1; number <= 10; number++ {
		w.done(number)
	}
	w.done(52)
	w.wantWaiting()
	w.add(53)
	w.wantWaiting(53)
	w.wantNot(1, 10, 50, 51, 52, 54)
}

func TestP15_2NumbersThatAreNot(t *testing.T) {
	w := newWorld(t)
	w.wantNot(1, 2)
	w.add(1, write(1, 0, 4))
	w.add(2, write(1, 0, 4))
	w.add(3, write(2, 0, 4))
	w.wantNot(strangers...)
	w.wantNot(4, 5, 6)
	w.done(1)
	w.wantNot(1, 4)
	w.done(3)
	w.wantNot(1, 3, 4)
	w.wantNot(strangers...)
	w.wantReady(2)
	w.done(2)
	w.wantNot(1, 2, 3, 4)
	w.wantWaiting()
}

func TestP15_2DoneOfOneThatWaits(t *testing.T) {
	w := newWorld(t)
	w.add(1, write(1, 0, 4))
	w.add(2, read(1, 0, 4))
	w.add(3, write(1, 2, 4))
	for range 3 {
		for _, number := range []int{2, 3} {
			w.wantError("Done", w.Done(number), api.ErrWait)
			w.wantWaiting(1, 2, 3)
			w.wantReady(1)
			w.wantAhead(2, 1)
			w.wantAhead(3, 1, 2)
		}
	}
	w.done(1)
	w.wantError("Done", w.Done(1), api.ErrTicket)
	w.wantError("Done", w.Done(3), api.ErrWait)
	w.wantReady(2)
	w.done(2)
	w.wantError("Done", w.Done(2), api.ErrTicket)
	w.done(3)
	w.wantError("Done", w.Done(3), api.ErrTicket)
	w.wantWaiting()
}

func TestP15_2ReadersTogether(t *testing.T) {
	w := newWorld(t)
	w.add(1, read(1, 0, 4))
	w.add(2, read(1, 0, 0))
	w.add(3, read(0, 0, 0))
	w.add(4, read(1, 3, 1))
	w.wantReady(1, 2, 3, 4)
	w.add(5, write(1, 3, 1))
	w.add(6, read(1, 3, 1))
	// The reader waits for who writes, though all of those that go ahead just read.
	w.wantReady(1, 2, 3, 4)
	w.wantAhead(5, 1, 2, 3, 4)
	w.wantAhead(6, 5)
	w.done(2, 4, 1)
	w.wantReady(3)
	w.wantAhead(5, 3)
	w.done(3)
	w.wantReady(5)
	w.done(5)
	w.wantReady(6)
}

func TestP15_2ClashByAnySpan(t *testing.T) {
	for i := range 3 {
		for j := range 3 {
			w := newWorld(t)
			w.add(1, read(7, 0, 1))
			first, second := spansBeside(write(8, 0, 9)), spansBeside(write(9, 0, 9))
			first[i], second[j] = write(1, 0, 1), read(1, 0, 1)
			w.add(2, first...)
			w.add(3, second...)
			w.wantReady(1, 2)
			w.wantAhead(3, 2)
			w.done(2)
			w.wantReady(1, 3)
		}
	}
}

// spansBeside are three spans of one volume that do not meet.
func spansBeside(s locks.Span) []locks.Span {
	list := []locks.Span{s, s, s}
	for i := range list {
		list[i].From += i * s.Len
	}
	return list
}

func TestP15_2OwnSpansClash(t *testing.T) {
	w := newWorld(t)
	w.add(1, write(1, 0, 4), write(1, 0, 4), read(1, 2, 9), write(0, 0, 0))
	w.wantReady(1)
	w.wantAhead(1)
	w.add(2, read(1, 20, 1), write(1, 20, 1))
	w.wantAhead(2, 1)
	w.done(1)
	w.wantReady(2)
	w.done(2)
	w.wantWaiting()
}

// TestP15_2WaitsForSeveral lets an entry wait for three that may go ahead, and ends those in each order: it is ready behind the last one, and not ahead of it.
func TestP15_2WaitsForSeveral(t *testing.T) {
	for _, order := range [][]int{{1, 2, 3}, {1, 3, 2}, {2, 1, 3}, {2, 3, 1}, {3, 1, 2}, {3, 2, 1}} {
		w := newWorld(t)
		left := []int{1, 2, 3}
		w.add(1, write(1, 0, 1))
		w.add(2, write(2, 0, 0))
		w.add(3, read(1, 5, 5))
		w.add(4, write(2, 7, 1), write(1, 0, 9))
		w.add(5, read(3, 0, 1))
		for _, number := range order {
			w.wantReady(append(slices.Clone(left), 5)...)
			w.wantAhead(4, left...)
			w.wantError("Done", w.Done(4), api.ErrWait)
			w.done(number)
			left = slices.DeleteFunc(left, func(n int) bool { return n == number })
		}
		w.wantReady(4, 5)
		w.wantAhead(4)
		w.done(4)
		w.wantWaiting(5)
	}
}

// TestP15_2WaitsForWhoWaits has an entry wait for one that waits itself, and not for what that one waits for.
func TestP15_2WaitsForWhoWaits(t *testing.T) {
	w := newWorld(t)
	w.add(1, write(1, 0, 1))
	w.add(2, write(1, 0, 1), write(2, 0, 1))
	w.add(3, write(2, 0, 1), write(3, 0, 1))
	w.add(4, read(3, 0, 1))
	w.wantReady(1)
	w.wantAhead(2, 1)
	w.wantAhead(3, 2)
	w.wantAhead(4, 3)
	for number := 1; number <= 4; number++ {
		w.wantReady(number)
		w.done(number)
	}
	w.wantWaiting()
}

// TestP15_2LaterOnesDoNotMatter demands that what comes behind an entry lets it be.
func TestP15_2LaterOnesDoNotMatter(t *testing.T) {
	w := newWorld(t)
	w.add(1, read(1, 0, 1))
	w.add(2, read(1, 0, 1))
	for number := 3; number <= 20; number++ {
		w.add(number, write(0, 0, 0))
		w.wantReady(1, 2)
		w.wantAhead(1)
		w.wantAhead(2)
	}
}
