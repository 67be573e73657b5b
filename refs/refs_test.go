package refs_test

import (
	"errors"
	"math"
	"slices"
	"testing"

	"portage/api"
	"portage/fault"
	"portage/refs"
)

// wantCode demands that err is this bare code.
func wantCode(t *testing.T, what string, err error, code api.Code) {
	t.Helper()
	var f *fault.Fault
	if err != error(code) || !errors.Is(err, code) || errors.As(err, &f) {
		t.Fatalf("%s: %v, not %v", what, err, code)
	}
}

// must demands that a call is not refused.
func must(t *testing.T, what string, err error) {
	t.Helper()
	if err != nil {
		t.Fatalf("%s: %v", what, err)
	}
}

// own is a volume's block.
func own(vol, block int) refs.Owner { return refs.Owner{Vol: vol, Block: block} }

// pair is an owner, and the address that it names.
type pair struct {
	owner refs.Owner
	addr  int
}

// put lets owners name addresses, one behind the other.
func put(t *testing.T, r *refs.Refs, pairs ...pair) {
	t.Helper()
	for _, p := range pairs {
		must(t, "Put", r.Put(p.owner, p.addr))
	}
}

// made is a map of these pairs.
func made(t *testing.T, pairs ...pair) *refs.Refs {
	t.Helper()
	r := refs.New()
	put(t, r, pairs...)
	return r
}

// wantOf demands that an owner names this.
func wantOf(t *testing.T, r *refs.Refs, o refs.Owner, addr int) {
	t.Helper()
	if got := r.Of(o); got != addr {
		t.Fatalf("Of(%v): %d, not %d", o, got, addr)
	}
}

// wantOwners demands that these, in this order, name an address, and that they are as many.
func wantOwners(t *testing.T, r *refs.Refs, addr int, owners ...refs.Owner) {
	t.Helper()
	if got := r.Owners(addr); !slices.Equal(got, owners) {
		t.Fatalf("Owners(%d): %v, not %v", addr, got, owners)
	}
	if got := r.Count(addr); got != len(owners) {
		t.Fatalf("Count(%d): %d, not %d", addr, got, len(owners))
	}
}

// wantAddrs demands that just these addresses are named.
func wantAddrs(t *testing.T, r *refs.Refs, addrs ...int) {
	t.Helper()
	if got := r.Addrs(); !slices.Equal(got, addrs) {
		t.Fatalf("Addrs: %v, not %v", got, addrs)
	}
}

// wantVolume demands that just these owners of a volume name something.
func wantVolume(t *testing.T, r *refs.Refs, vol int, owners ...refs.Owner) {
	t.Helper()
	if got := r.Volume(vol); !slices.Equal(got, owners) {
		t.Fatalf("Volume(%d): %v, not %v", vol, got, owners)
	}
}

// wantLen demands that so many owners name something.
func wantLen(t *testing.T, r *refs.Refs, count int) {
	t.Helper()
	if got := r.Len(); got != count {
		t.Fatalf("Len: %d, not %d", got, count)
	}
}

// wantCommit demands that Commit tells just these changes, in this order.
func wantCommit(t *testing.T, r *refs.Refs, changes ...refs.Change) {
	t.Helper()
	got, err := r.Commit()
	must(t, "Commit", err)
	if !slices.Equal(got, changes) {
		t.Fatalf("Commit: %v, not %v", got, changes)
	}
}

// wantNothingBegun demands that there is nothing to end.
func wantNothingBegun(t *testing.T, r *refs.Refs) {
	t.Helper()
	list, err := r.Commit()
	wantCode(t, "Commit", err, api.ErrBusy)
	if len(list) != 0 {
		t.Fatalf("Commit tells %v beside an error", list)
	}
	wantCode(t, "Back", r.Back(), api.ErrBusy)
}

// below are addresses that cannot be named.
var below = []int{-1, -2, -9, -api.MaxSectors, math.MinInt32, math.MinInt + 1, math.MinInt}

// edges are numbers of volumes and blocks, around 0 and at the ends.
var edges = []int{math.MinInt, math.MinInt + 1, math.MinInt32, -2, -1, 0, 1, 2, math.MaxInt32, math.MaxInt - 1, math.MaxInt}

// edgeOwners are owners of all the edges, in order.
func edgeOwners() []refs.Owner {
	var owners []refs.Owner
	for _, vol := range edges {
		for _, block := range edges {
			owners = append(owners, own(vol, block))
		}
	}
	return owners
}

func TestP9Example(t *testing.T) {
	r := made(t, pair{own(1, 0), 9}, pair{own(2, 0), 9})
	wantOwners(t, r, 9, own(1, 0), own(2, 0))
	must(t, "Begin", r.Begin())
	put(t, r, pair{own(1, 0), 7})
	wantCommit(t, r, refs.Change{Owner: own(1, 0), From: 9, To: 7})
	wantAddrs(t, r, 7, 9)
}

func TestP9_1NewIsOfNothing(t *testing.T) {
	r := refs.New()
	for _, o := range edgeOwners() {
		wantOf(t, r, o, 0)
	}
	for _, addr := range append([]int{0, 1, 9, math.MaxInt}, below...) {
		wantOwners(t, r, addr)
	}
	for _, vol := range edges {
		wantVolume(t, r, vol)
	}
	wantAddrs(t, r)
	wantLen(t, r, 0)
	wantNothingBegun(t, r)
}

func TestP9_1MapsApart(t *testing.T) {
	one, other := refs.New(), refs.New()
	must(t, "Begin", one.Begin())
	put(t, one, pair{own(1, 0), 9})
	wantAll(t, other, newModel())
	put(t, other, pair{own(1, 0), 3})
	wantOf(t, one, own(1, 0), 9)
	wantCommit(t, one, refs.Change{Owner: own(1, 0), To: 9})
	wantOf(t, other, own(1, 0), 3)
}

func TestP9_1PutBelowZero(t *testing.T) {
	r, m := several(t)
	for _, addr := range below {
		for _, o := range append(m.order(), own(1, 1), own(8, 8), own(-1, -1)) {
			wantCode(t, "Put", r.Put(o, addr), api.ErrOwner)
			wantOf(t, r, o, m.of[o])
		}
		wantAll(t, r, m)
	}
	r = refs.New()
	for _, addr := range below {
		wantCode(t, "Put", r.Put(own(0, 0), addr), api.ErrOwner)
		wantAll(t, r, newModel())
	}
}

func TestP9_1PutZero(t *testing.T) {
	r := made(t, pair{own(1, 0), 9}, pair{own(1, 1), 9})
	put(t, r, pair{own(1, 0), 0})
	wantOf(t, r, own(1, 0), 0)
	wantOf(t, r, own(1, 1), 9)
	wantOwners(t, r, 9, own(1, 1))
	wantOwners(t, r, 0)
	wantLen(t, r, 1)
	// Whoever names nothing may do so once more, whether it ever named something or not.
	put(t, r, pair{own(1, 0), 0}, pair{own(7, 7), 0})
	wantOf(t, r, own(7, 7), 0)
	wantOwners(t, r, 0)
	wantAddrs(t, r, 9)
	wantVolume(t, r, 7)
	wantLen(t, r, 1)
	put(t, r, pair{own(1, 0), 9})
	wantOwners(t, r, 9, own(1, 0), own(1, 1))
}

func TestP9_1PutAddresses(t *testing.T) {
	for _, addr := range []int{1, 2, api.MaxDevices*api.MaxSectors - 1, api.MaxDevices * api.MaxSectors, math.MaxInt32, 1 << 32, math.MaxInt - 1, math.MaxInt} {
		r := made(t, pair{own(1, 0), addr})
		wantOf(t, r, own(1, 0), addr)
		wantOwners(t, r, addr, own(1, 0))
		wantOwners(t, r, addr-1)
		wantAddrs(t, r, addr)
	}
}

func TestP9_1PutTwice(t *testing.T) {
	r := refs.New()
	for range 3 {
		put(t, r, pair{own(1, 0), 9})
		wantOf(t, r, own(1, 0), 9)
		wantOwners(t, r, 9, own(1, 0))
		wantVolume(t, r, 1, own(1, 0))
		wantAddrs(t, r, 9)
		wantLen(t, r, 1)
	}
	put(t, r, pair{own(1, 0), 0})
	wantAll(t, r, newModel())
}

func TestP9_1PutAnother(t *testing.T) {
	r := made(t, pair{own(1, 0), 9}, pair{own(2, 0), 9})
	for _, addr := range []int{7, math.MaxInt, 1, 9, 7} {
		put(t, r, pair{own(1, 0), addr})
		wantOf(t, r, own(1, 0), addr)
		wantOf(t, r, own(2, 0), 9)
		if !slices.Contains(r.Owners(addr), own(1, 0)) || addr != 9 && slices.Contains(r.Owners(9), own(1, 0)) {
			t.Fatalf("Put(%d): Owners(%d): %v, Owners(9): %v", addr, addr, r.Owners(addr), r.Owners(9))
		}
		wantLen(t, r, 2)
	}
	wantAddrs(t, r, 7, 9)
}

func TestP9_1OwnersAtTheEdges(t *testing.T) {
	r, m := refs.New(), newModel()
	for i, o := range edgeOwners() {
		wantOf(t, r, o, 0)
		put(t, r, pair{o, i + 1})
		m.of[o] = i + 1
	}
	for i, o := range edgeOwners() {
		wantOf(t, r, o, i+1)
		wantOwners(t, r, i+1, o)
	}
	wantAll(t, r, m)
	for _, o := range edgeOwners() {
		wantCode(t, "Put", r.Put(o, -1), api.ErrOwner)
		wantOf(t, r, o, m.of[o])
		put(t, r, pair{o, 0})
		wantOf(t, r, o, 0)
	}
	wantAll(t, r, newModel())
}

func TestP9_1OfOwnersNeverPut(t *testing.T) {
	r := made(t, pair{own(1, 2), 9})
	for _, o := range []refs.Owner{own(2, 1), own(1, 1), own(1, 3), own(0, 2), own(2, 2), own(-1, -2), own(9, 0)} {
		wantOf(t, r, o, 0)
		wantCode(t, "Put", r.Put(o, -9), api.ErrOwner)
		wantOf(t, r, o, 0)
	}
	wantOf(t, r, own(1, 2), 9)
	wantLen(t, r, 1)
}

func TestP9_2Owners(t *testing.T) {
	r := made(t, pair{own(1, 0), 9}, pair{own(3, 1), 4}, pair{own(3, 0), 4}, pair{own(2, 5), 4})
	wantOwners(t, r, 9, own(1, 0))
	wantOwners(t, r, 4, own(2, 5), own(3, 0), own(3, 1))
	for _, addr := range append([]int{0, 1, 3, 5, 8, 10, math.MaxInt}, below...) {
		wantOwners(t, r, addr)
	}
	wantLen(t, r, 4)
}

// TestP9_2NobodyNamesZero demands that owners that name nothing are not told as those of 0.
func TestP9_2NobodyNamesZero(t *testing.T) {
	r := made(t, pair{own(1, 0), 0}, pair{own(1, 1), 9}, pair{own(1, 1), 0}, pair{own(0, 0), 0})
	wantOwners(t, r, 0)
	wantAddrs(t, r)
	wantVolume(t, r, 0)
	wantVolume(t, r, 1)
	wantLen(t, r, 0)
}

// TestP9_2OwnersInOrder puts owners of all edges to one address, in several orders.
func TestP9_2OwnersInOrder(t *testing.T) {
	want := edgeOwners()
	// The count is 11 times 11, which has no divisor in common with these steps, so that each owner comes once.
	for _, step := range []int{1, 2, 7, 50, 118} {
		r := refs.New()
		for i := range want {
			put(t, r, pair{want[(i*step+step)%len(want)], 5})
			wantLen(t, r, i+1)
		}
		wantOwners(t, r, 5, want...)
	}
	r := refs.New()
	for _, o := range slices.Backward(want) {
		put(t, r, pair{o, 5})
	}
	wantOwners(t, r, 5, want...)
	for i, vol := range edges {
		wantVolume(t, r, vol, want[i*len(edges):(i+1)*len(edges)]...)
	}
}

// TestP9_2ManyOwners has more owners of one address than a small map has room for.
func TestP9_2ManyOwners(t *testing.T) {
	const count = 5000
	r := refs.New()
	var want []refs.Owner
	for i := range count {
		want = append(want, own(i/100, i%100))
		put(t, r, pair{want[i], 6})
	}
	wantOwners(t, r, 6, want...)
	for i := range count - 1 {
		put(t, r, pair{want[i], i%3 + 7})
	}
	wantOwners(t, r, 6, want[count-1])
	wantAddrs(t, r, 6, 7, 8, 9)
	wantLen(t, r, count)
}

func TestP9_2Addrs(t *testing.T) {
	r := refs.New()
	wantAddrs(t, r)
	put(t, r, pair{own(1, 0), 9})
	wantAddrs(t, r, 9)
	put(t, r, pair{own(1, 1), math.MaxInt}, pair{own(2, 0), 1}, pair{own(0, 0), 4096}, pair{own(-1, 0), 9})
	wantAddrs(t, r, 1, 9, 4096, math.MaxInt)
	wantLen(t, r, 5)
	var want []int
	r = refs.New()
	for i := range 100 {
		put(t, r, pair{own(i%3, i), i*37%101 + 1})
		want = append(want, i*37%101+1)
	}
	slices.Sort(want)
	wantAddrs(t, r, want...)
}

// TestP9_2LastOwnerGoes demands that an address is named as long as somebody names it.
func TestP9_2LastOwnerGoes(t *testing.T) {
	r := made(t, pair{own(1, 0), 9}, pair{own(2, 0), 9})
	put(t, r, pair{own(1, 0), 7})
	wantAddrs(t, r, 7, 9)
	put(t, r, pair{own(2, 0), 7})
	wantAddrs(t, r, 7)
	wantOwners(t, r, 9)
	wantLen(t, r, 2)
	put(t, r, pair{own(2, 0), 0})
	wantAddrs(t, r, 7)
	put(t, r, pair{own(1, 0), 0})
	wantAddrs(t, r)
	wantOwners(t, r, 7)
	wantLen(t, r, 0)
	put(t, r, pair{own(1, 0), 9})
	wantAddrs(t, r, 9)
	wantOwners(t, r, 9, own(1, 0))
}

func TestP9_2Volume(t *testing.T) {
	r := made(t, pair{own(2, 7), 9}, pair{own(2, -7), 8}, pair{own(1, 3), 9}, pair{own(2, 0), 9}, pair{own(3, 2), 5}, pair{own(3, 2), 0}, pair{own(0, 2), 2})
	wantVolume(t, r, 2, own(2, -7), own(2, 0), own(2, 7))
	wantVolume(t, r, 1, own(1, 3))
	wantVolume(t, r, 0, own(0, 2))
	for _, vol := range []int{3, 4, -1, -2, 7, 9, math.MinInt, math.MaxInt} {
		wantVolume(t, r, vol)
	}
	wantLen(t, r, 5)
	put(t, r, pair{own(2, 0), 0}, pair{own(2, 7), 1})
	wantVolume(t, r, 2, own(2, -7), own(2, 7))
	wantLen(t, r, 4)
}

func TestP9_3BeginTwice(t *testing.T) {
	r, m := several(t)
	must(t, "Begin", r.Begin())
	put(t, r, pair{own(1, 0), 33})
	wantCode(t, "Begin", r.Begin(), api.ErrBusy)
	wantCode(t, "Begin", r.Begin(), api.ErrBusy)
	wantOf(t, r, own(1, 0), 33)
	must(t, "Back", r.Back())
	wantAll(t, r, m)
	must(t, "Begin", r.Begin())
	put(t, r, pair{own(1, 0), 33})
	wantCode(t, "Begin", r.Begin(), api.ErrBusy)
	wantCommit(t, r, refs.Change{Owner: own(1, 0), From: 9, To: 33})
}

func TestP9_3NothingBegun(t *testing.T) {
	r, m := several(t)
	for range 2 {
		wantNothingBegun(t, r)
		wantAll(t, r, m)
		must(t, "Begin", r.Begin())
		must(t, "Back", r.Back())
		wantNothingBegun(t, r)
		must(t, "Begin", r.Begin())
		wantCommit(t, r)
	}
}

func TestP9_3NothingChanged(t *testing.T) {
	r, m := several(t)
	must(t, "Begin", r.Begin())
	wantAll(t, r, m)
	wantCommit(t, r)
	must(t, "Begin", r.Begin())
	for _, o := range m.order() {
		put(t, r, pair{o, m.of[o]})
	}
	put(t, r, pair{own(77, 7), 0})
	wantAll(t, r, m)
	wantCommit(t, r)
	wantAll(t, r, m)
	r = refs.New()
	must(t, "Begin", r.Begin())
	wantCommit(t, r)
}

// TestP9_3Commit has one owner of each kind that came, went, and went elsewhere, and what is told of each.
func TestP9_3Commit(t *testing.T) {
	for _, c := range []struct {
		what  string
		owner refs.Owner
		addrs []int
		from  int
	}{
		{"it came", own(5, 5), []int{3}, 0},
		{"it came, and went on", own(5, 5), []int{3, 4, 9}, 0},
		{"it came, went, and came", own(5, 5), []int{3, 0, 4}, 0},
		{"it went", own(1, 0), []int{0}, 9},
		{"it went, by another address", own(1, 0), []int{8, 0}, 9},
		{"it went, came back, and went", own(1, 0), []int{0, 9, 0}, 9},
		{"it went elsewhere", own(1, 0), []int{8}, 9},
		{"it went elsewhere, by nothing", own(1, 0), []int{0, 8}, 9},
		{"it went elsewhere twice", own(1, 0), []int{7, 7, 8}, 9},
		{"it came back, and went elsewhere", own(1, 0), []int{7, 9, 9, 8}, 9},
	} {
		t.Run(c.what, func(t *testing.T) {
			r, m := several(t)
			must(t, "Begin", r.Begin())
			for _, addr := range c.addrs {
				put(t, r, pair{c.owner, addr})
				m.put(c.owner, addr)
				wantAll(t, r, m)
			}
			wantCommit(t, r, refs.Change{Owner: c.owner, From: c.from, To: c.addrs[len(c.addrs)-1]})
			wantAll(t, r, m)
			wantNothingBegun(t, r)
		})
	}
}

// TestP9_3AsAtBegin demands that no change is told of an owner that names what it named at Begin.
func TestP9_3AsAtBegin(t *testing.T) {
	for _, c := range []struct {
		owner refs.Owner
		addrs []int
	}{
		{own(1, 0), []int{9}},
		{own(1, 0), []int{0, 9}},
		{own(1, 0), []int{7, 9}},
		{own(1, 0), []int{7, 0, 8, 9}},
		{own(1, 0), []int{7, 9, 0, 9}},
		{own(5, 5), []int{0}},
		{own(5, 5), []int{3, 0}},
		{own(5, 5), []int{3, 4, 0}},
		{own(5, 5), []int{3, 0, 0, 4, 0}},
	} {
		r, m := several(t)
		must(t, "Begin", r.Begin())
		for _, addr := range c.addrs {
			put(t, r, pair{c.owner, addr})
		}
		put(t, r, pair{own(2, 0), 50})
		m.put(own(2, 0), 50)
		wantCommit(t, r, refs.Change{Owner: own(2, 0), From: 9, To: 50})
		wantAll(t, r, m)
	}
}

// changed brings several's map to another one, with owners that come, go, go elsewhere, and such as are again as they were.
func changed(t *testing.T, r *refs.Refs) []refs.Change {
	t.Helper()
	put(t, r,
		pair{own(3, 4), 0},
		pair{own(math.MaxInt, 0), 9},
		pair{own(1, 0), 7},
		pair{own(2, 0), 3}, pair{own(2, 0), 9},
		pair{own(-4, 1), math.MaxInt},
		pair{own(1, -1), 9}, pair{own(1, -1), 0},
		pair{own(1, 7), 9},
		pair{own(math.MinInt, math.MaxInt), 1},
		pair{own(1, 5), 0}, pair{own(1, 5), 8},
	)
	return []refs.Change{
		{Owner: own(math.MinInt, math.MaxInt), From: 0, To: 1},
		{Owner: own(-4, 1), From: 0, To: math.MaxInt},
		{Owner: own(1, 0), From: 9, To: 7},
		{Owner: own(1, 5), From: 9, To: 8},
		{Owner: own(1, 7), From: 0, To: 9},
		{Owner: own(3, 4), From: 4, To: 0},
		{Owner: own(math.MaxInt, 0), From: 0, To: 9},
	}
}

func TestP9_3CommitInOrder(t *testing.T) {
	r, _ := several(t)
	must(t, "Begin", r.Begin())
	want := changed(t, r)
	wantCommit(t, r, want...)
	for _, c := range want {
		wantOf(t, r, c.Owner, c.To)
	}
	wantOf(t, r, own(2, 0), 9)
	wantOf(t, r, own(1, -1), 0)
}

// TestP9_3CommitOfEdges lets all owners at the edges come, go on, and go, and wants each of them in its place.
func TestP9_3CommitOfEdges(t *testing.T) {
	r := refs.New()
	for from, to := range []int{1, 2, 0} {
		must(t, "Begin", r.Begin())
		var want []refs.Change
		for _, o := range slices.Backward(edgeOwners()) {
			put(t, r, pair{o, to})
			want = append(want, refs.Change{Owner: o, From: from, To: to})
		}
		slices.Reverse(want)
		wantCommit(t, r, want...)
	}
	wantAll(t, r, newModel())
}

func TestP9_3Back(t *testing.T) {
	r, m := several(t)
	for range 2 {
		must(t, "Begin", r.Begin())
		changed(t, r)
		must(t, "Back", r.Back())
		wantAll(t, r, m)
		wantNothingBegun(t, r)
	}
	r = refs.New()
	must(t, "Begin", r.Begin())
	changed(t, r)
	must(t, "Back", r.Back())
	wantAll(t, r, newModel())
}

// TestP9_3BackToAll lets all owners go, and then takes that back.
func TestP9_3BackToAll(t *testing.T) {
	r, m := several(t)
	must(t, "Begin", r.Begin())
	for _, o := range m.order() {
		put(t, r, pair{o, 0})
	}
	wantAll(t, r, newModel())
	must(t, "Back", r.Back())
	wantAll(t, r, m)
}

// TestP9_3Refused demands that a Put that is refused is in nothing that is told or taken back.
func TestP9_3Refused(t *testing.T) {
	r, m := several(t)
	must(t, "Begin", r.Begin())
	for _, addr := range below {
		wantCode(t, "Put", r.Put(own(1, 0), addr), api.ErrOwner)
		wantCode(t, "Put", r.Put(own(5, 5), addr), api.ErrOwner)
	}
	wantAll(t, r, m)
	wantCommit(t, r)
	must(t, "Begin", r.Begin())
	put(t, r, pair{own(1, 0), 7})
	wantCode(t, "Put", r.Put(own(1, 0), -7), api.ErrOwner)
	wantCode(t, "Put", r.Put(own(1, 5), math.MinInt), api.ErrOwner)
	wantCommit(t, r, refs.Change{Owner: own(1, 0), From: 9, To: 7})
	m.put(own(1, 0), 7)
	must(t, "Begin", r.Begin())
	put(t, r, pair{own(1, 0), 2})
	wantCode(t, "Put", r.Put(own(1, 0), -2), api.ErrOwner)
	wantOf(t, r, own(1, 0), 2)
	must(t, "Back", r.Back())
	wantAll(t, r, m)
}

// TestP9_3BeginAgain demands that what a Begin is held against is what stands then, not what stood at an earlier one.
func TestP9_3BeginAgain(t *testing.T) {
	r, m := several(t)
	must(t, "Begin", r.Begin())
	put(t, r, pair{own(1, 0), 7}, pair{own(3, 4), 0})
	m.put(own(1, 0), 7)
	m.put(own(3, 4), 0)
	wantCommit(t, r, refs.Change{Owner: own(1, 0), From: 9, To: 7}, refs.Change{Owner: own(3, 4), From: 4, To: 0})

	must(t, "Begin", r.Begin())
	put(t, r, pair{own(1, 0), 9}, pair{own(6, 6), 9})
	must(t, "Back", r.Back())
	wantAll(t, r, m)

	put(t, r, pair{own(1, 0), 8})
	m.put(own(1, 0), 8)
	must(t, "Begin", r.Begin())
	put(t, r, pair{own(1, 0), 7})
	wantCommit(t, r, refs.Change{Owner: own(1, 0), From: 8, To: 7})

	put(t, r, pair{own(1, 0), 6})
	m.put(own(1, 0), 6)
	must(t, "Begin", r.Begin())
	put(t, r, pair{own(1, 0), 0})
	must(t, "Back", r.Back())
	wantAll(t, r, m)
	must(t, "Begin", r.Begin())
	wantCommit(t, r)
}
