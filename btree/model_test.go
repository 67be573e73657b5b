package btree_test

import (
	"cmp"
	"errors"
	"maps"
	"slices"
	"testing"

	"portage/api"
	"portage/btree"
	"portage/fault"
	"portage/node"
	"portage/roster"
)

// page is a page of a tree, as the chapter's words put it. Trees share those pages that are one and the same; nil is the empty tree.
type page struct {
	level int
	// pairs are a leaf's; below are the pages that another one names.
	pairs []node.Pair
	below []*page
}

// leafOf is a leaf with these keys, each with a value of its own.
func leafOf(keys ...int) *page {
	x := &page{}
	for _, key := range keys {
		x.pairs = append(x.pairs, node.Pair{Key: key, Val: key + 1000})
	}
	return x
}

// above is a page that names these.
func above(below ...*page) *page { return &page{level: below[0].level + 1, below: below} }

// least is the least key of a page.
func (x *page) least() int {
	if x.level == 0 {
		return x.pairs[0].Key
	}
	return x.below[0].least()
}

// all are the pairs of a tree.
func (x *page) all() []node.Pair {
	if x == nil {
		return nil
	}
	pairs := slices.Clone(x.pairs)
	for _, lower := range x.below {
		pairs = append(pairs, lower.all()...)
	}
	return pairs
}

// each hands on all pages of a tree, those that are named ahead of those that name them.
func (x *page) each(visit func(*page)) {
	if x == nil {
		return
	}
	for _, lower := range x.below {
		lower.each(visit)
	}
	visit(x)
}

// count is how many pages a tree has.
func (x *page) count() int {
	count := 0
	x.each(func(*page) { count++ })
	return count
}

// cut is layer 10's sentence about eight keys, of pairs or of pages.
func cut[T any](list []T, made func([]T) *page) []*page {
	switch {
	case len(list) == 0:
		return nil
	case len(list) < 8:
		return []*page{made(list)}
	}
	return []*page{made(list[:4]), made(list[4:])}
}

// change is the chapter's sentence about a change: the pages that a page becomes if the pairs at a key become others.
func (x *page) change(key int, pairs ...node.Pair) []*page {
	if x.level == 0 {
		rest := slices.DeleteFunc(slices.Clone(x.pairs), func(p node.Pair) bool { return p.Key == key })
		rest = append(rest, pairs...)
		slices.SortFunc(rest, func(a, b node.Pair) int { return cmp.Compare(a.Key, b.Key) })
		return cut(rest, func(list []node.Pair) *page { return &page{pairs: list} })
	}
	at := 0
	for i, lower := range x.below {
		if lower.least() <= key {
			at = i
		}
	}
	below := slices.Concat(x.below[:at], x.below[at].change(key, pairs...), x.below[at+1:])
	return cut(below, func(list []*page) *page { return &page{level: x.level, below: list} })
}

// rooted is the chapter's sentence about roots.
func rooted(list []*page) *page {
	if len(list) == 0 {
		return nil
	}
	x := list[0]
	if len(list) > 1 {
		x = above(list...)
	}
	for x.level > 0 && len(x.below) == 1 {
		x = x.below[0]
	}
	return x
}

// set and without are the chapter's sentences about Set and Delete of keys that may be there.
func (x *page) set(key, val int) *page {
	if x == nil {
		return &page{pairs: []node.Pair{{Key: key, Val: val}}}
	}
	return rooted(x.change(key, node.Pair{Key: key, Val: val}))
}

func (x *page) without(key int) *page { return rooted(x.change(key)) }

// find is the chapter's sentence about Find.
func (x *page) find(key int) (int, bool) {
	for _, pair := range x.all() {
		if pair.Key == key {
			return pair.Val, true
		}
	}
	return 0, false
}

// swapping is what trees are swapped with, one behind the other: what became of pages, by their addresses as Swap notes it, and by the pages themselves.
type swapping struct {
	device      int
	vals, noted map[int]int
	became      map[*page]*page
}

// wrong tells whether a value of a tree would become one that may not be.
func (s *swapping) wrong(x *page) bool {
	if s.became[x] != nil {
		return false
	}
	for _, pair := range x.pairs {
		if to, is := s.vals[pair.Val]; is && (to < 1 || to > 1<<61) {
			return true
		}
	}
	return slices.ContainsFunc(x.below, s.wrong)
}

// swap is the chapter's sentence about Swap; what it writes anew is added to became.
func (s *swapping) swap(x *page, at map[*page]int, became map[*page]*page) *page {
	if to := s.became[x]; to != nil {
		return to
	}
	next := &page{level: x.level, pairs: slices.Clone(x.pairs), below: slices.Clone(x.below)}
	for i, pair := range x.pairs {
		if to, is := s.vals[pair.Val]; is {
			next.pairs[i].Val = to
		}
	}
	for i, lower := range x.below {
		next.below[i] = s.swap(lower, at, became)
	}
	if at[x]/api.MaxSectors != s.device && slices.Equal(next.pairs, x.pairs) && slices.Equal(next.below, x.below) {
		return x
	}
	became[x] = next
	return next
}

// tree is a tree that is held once: as the chapter's words put it, and as it was told.
type tree struct {
	page *page
	root int
}

// forest is a store with several trees, some of which share pages.
type forest struct {
	*world
	trees []tree
	// at are the addresses of all pages.
	at map[*page]int
}

// planted is a store with these trees, put by hand. Pages that several of them have are put once.
func planted(w *world, list ...*page) *forest {
	w.Helper()
	f := &forest{world: w, at: map[*page]int{}}
	for _, x := range list {
		x.each(func(y *page) {
			if f.at[y] == 0 {
				f.at[y] = w.put(f.node(y))
			}
		})
		if x != nil {
			w.hold(f.at[x])
		}
		f.trees = append(f.trees, tree{x, f.at[x]})
	}
	f.wantAll()
	return f
}

// node is the node of a page.
func (f *forest) node(x *page) node.Node {
	n := node.Node{Level: x.level}
	for _, pair := range x.pairs {
		n.Keys, n.Vals = append(n.Keys, pair.Key), append(n.Vals, pair.Val)
	}
	for _, lower := range x.below {
		n.Keys, n.Vals = append(n.Keys, lower.least()), append(n.Vals, f.at[lower])
	}
	return n
}

// locate demands that a tree is at an address just as the chapter's words put it: pages that are known where they were, all others somewhere where nothing was taken. Those are known then.
func (f *forest) locate(x *page, addr int, was []int) {
	f.Helper()
	if x == nil {
		if addr != 0 {
			f.Fatalf("the empty tree is %d", addr)
		}
		return
	}
	if at, is := f.at[x]; is {
		if at != addr {
			f.Fatalf("a page that is not changed is at %d, not at %d", addr, at)
		}
		return
	}
	if slices.Contains(was, addr) {
		f.Fatalf("a page is written to %d, where one was", addr)
	}
	n, err := f.p.Get(addr)
	must(f.T, "Get", err)
	if n.Level != x.level || len(n.Vals) != len(x.pairs)+len(x.below) {
		f.Fatalf("at %d stands %v, not %+v", addr, n, x)
	}
	for i, lower := range x.below {
		f.locate(lower, n.Vals[i], was)
	}
	f.at[x] = addr
	if want := f.node(x); !n.Same(want) {
		f.Fatalf("at %d stands %v, not %v", addr, n, want)
	}
}

// wantAll demands that just the pages of the trees are in the store, each with as many holds as trees and pages name it, and that just they are taken in the space.
func (f *forest) wantAll() {
	f.Helper()
	want := map[int]int{}
	seen := map[*page]bool{}
	for _, x := range f.trees {
		x.page.each(func(y *page) {
			if seen[y] {
				return
			}
			seen[y] = true
			want[f.at[y]] += 0
			for _, lower := range y.below {
				want[f.at[lower]]++
			}
			if n, err := f.p.Get(f.at[y]); err != nil || !n.Same(f.node(y)) {
				f.Fatalf("at %d stands %v, %v, not %v", f.at[y], n, err, f.node(y))
			}
		})
		if x.root != f.at[x.page] {
			f.Fatalf("a tree is %d, not %d", x.root, f.at[x.page])
		}
		if x.page != nil {
			want[x.root]++
		}
	}
	f.wantHolds(want)
	maps.DeleteFunc(f.at, func(x *page, _ int) bool { return !seen[x] })
}

// turn demands that a tree became what a call told: held once more than the old one, whose hold is gone.
func (f *forest) turn(i int, x *page, root int, was []int) {
	f.Helper()
	f.locate(x, root, was)
	f.trees[i] = tree{x, root}
	f.wantAll()
}

// needs is how many pages of a tree are not there yet.
func (f *forest) needs(x *page) int {
	count := 0
	x.each(func(y *page) {
		if _, is := f.at[y]; !is {
			count++
		}
	})
	return count
}

// wantRefused demands that an answer is this error alone, and that all is as it was.
func (f *forest) wantRefused(what string, root int, err, want error, before told) {
	f.Helper()
	if root != 0 {
		f.Fatalf("%s tells %d beside an error", what, root)
	}
	if !errors.Is(err, want) {
		f.Fatalf("%s: %v, not %v", what, err, want)
	}
	var found *fault.Fault
	if errors.As(err, &found) != (want == api.ErrDown) {
		f.Fatalf("%s: %v", what, err)
	}
	wantSame(f.T, what, f.tells(), before)
	f.wantAll()
}

// lacks is the error of a call that has to put so many pages: nil, if there is room, and the power does not go ahead of that.
func (f *forest) lacks(needs, arm int) error {
	switch free := f.s.Free(); {
	case arm >= 0 && needs > arm && arm < free:
		return api.ErrDown
	case needs > free:
		return api.ErrFull
	}
	return nil
}

// do has a call done to a tree while the power goes at a write (below 0: at none), and demands that it answers as the chapter's words do: refused is the error that comes ahead of those of the store, nil if there is none.
func (f *forest) do(what string, i, arm int, x *page, refused error, call func(root int) (int, error)) bool {
	f.Helper()
	want := refused
	if want == nil {
		want = f.lacks(f.needs(x), arm)
	}
	before, was := f.tells(), f.p.Pages()
	if arm >= 0 {
		f.b.Arm(arm)
	}
	root, err := call(f.trees[i].root)
	if arm >= 0 {
		f.b.Crash()
	}
	if want != nil {
		f.wantRefused(what, root, err, want, before)
		return false
	}
	must(f.T, what, err)
	f.turn(i, x, root, was)
	return true
}

// set, delete and swap tell whether the call was not refused.
func (f *forest) set(i, key, val, arm int) bool {
	f.Helper()
	var x *page
	var refused error = api.ErrKey
	if key >= 0 && key <= 1<<40 && val >= 1 && val <= 1<<61 {
		x, refused = f.trees[i].page.set(key, val), nil
	}
	return f.do("Set", i, arm, x, refused, func(root int) (int, error) { return btree.Set(f.p, root, key, val) })
}

func (f *forest) delete(i, key, arm int) bool {
	f.Helper()
	var x *page
	var refused error = api.ErrMissing
	if _, is := f.trees[i].page.find(key); is {
		x, refused = f.trees[i].page.without(key), nil
	}
	return f.do("Delete", i, arm, x, refused, func(root int) (int, error) { return btree.Delete(f.p, root, key) })
}

// swap swaps a tree, and demands what is noted then.
func (f *forest) swap(i, arm int, s *swapping) bool {
	f.Helper()
	old := f.trees[i].page
	became := map[*page]*page{}
	var x *page
	var refused error
	switch {
	case old == nil:
	case s.wrong(old):
		refused = api.ErrKey
	default:
		x = s.swap(old, f.at, became)
	}
	want := maps.Clone(s.noted)
	vals := maps.Clone(s.vals)
	was := maps.Clone(f.at)
	done := f.do("Swap", i, arm, x, refused, func(root int) (int, error) { return btree.Swap(f.p, root, s.device, s.noted, s.vals) })
	if done {
		for from, to := range became {
			want[was[from]] = f.at[to]
			s.became[from] = to
		}
	}
	if !maps.Equal(s.noted, want) || !maps.Equal(s.vals, vals) {
		f.Fatalf("Swap notes %v, not %v; vals: %v", s.noted, want, s.vals)
	}
	return done
}

// wantReads demands what is told of a tree: at each key that it has, and at those beside them.
func (f *forest) wantReads(i int) {
	f.Helper()
	root, all := f.trees[i].root, f.trees[i].page.all()
	must(f.T, "Check", btree.Check(f.p, root))
	if got := btree.Count(f.p, root); got != len(all) {
		f.Fatalf("Count: %d, not %d", got, len(all))
	}
	var addrs []int
	f.trees[i].page.each(func(x *page) { addrs = append(addrs, f.at[x]) })
	slices.Sort(addrs)
	if got := btree.Pages(f.p, root); !slices.Equal(got, addrs) {
		f.Fatalf("Pages: %v, not %v", got, addrs)
	}
	keys := slices.Clone(edges)
	for _, pair := range all {
		keys = append(keys, pair.Key-1, pair.Key, pair.Key+1)
	}
	for _, key := range keys {
		val, is := f.trees[i].page.find(key)
		if got, ok := btree.Find(f.p, root, key); got != val || ok != is {
			f.Fatalf("Find(%d): %d, %t, not %d, %t", key, got, ok, val, is)
		}
		rest := slices.DeleteFunc(slices.Clone(all), func(p node.Pair) bool { return p.Key < key })
		for _, limit := range []int{-1, 0, 1, 5, len(rest) - 1, len(rest), len(rest) + 1} {
			want := rest
			if limit >= 0 {
				want = rest[:min(limit, len(rest))]
			}
			if got := btree.Items(f.p, root, key, limit); !slices.Equal(got, want) {
				f.Fatalf("Items(%d, %d): %v, not %v", key, limit, got, want)
			}
		}
	}
}

// call is some call to a tree of a forest.
type call struct {
	name     string
	key, val int
}

// does has a call done to a tree, and tells whether it was not refused.
func (f *forest) does(i int, c call, arm int) bool {
	f.Helper()
	if c.name == "Set" {
		return f.set(i, c.key, c.val, arm)
	}
	return f.delete(i, c.key, arm)
}

// small are trees at which the chapter tells cases apart.
func small() map[string]*page {
	thin := above(above(leafOf(10)), above(leafOf(20)))
	return map[string]*page{
		"empty":     nil,
		"one":       leafOf(20),
		"seven":     leafOf(10, 20, 30, 40, 50, 60, 70),
		"two":       above(leafOf(10, 20, 30, 40), leafOf(50, 60, 70)),
		"full":      above(leafOf(10), leafOf(20), leafOf(30), leafOf(40), leafOf(50, 51, 52, 53, 54, 55, 56), leafOf(60), leafOf(70)),
		"thin":      thin,
		"thinner":   above(above(above(leafOf(10))), above(above(leafOf(20)))),
		"one-sided": above(above(leafOf(10, 20), leafOf(30)), above(leafOf(50))),
		"chain":     above(above(above(leafOf(20)))),
		"deep full": above(above(leafOf(5)), above(leafOf(10)), above(leafOf(11)), above(leafOf(12)), above(leafOf(13)), above(leafOf(14)),
			above(leafOf(20), leafOf(30), leafOf(40), leafOf(50, 51, 52, 53, 54, 55, 56), leafOf(60), leafOf(70), leafOf(80))),
	}
}

// TestP12Small has all sequences of a few calls done to trees at which the chapter tells cases apart, one of them held twice, and holds all that comes of it against the chapter's words.
func TestP12Small(t *testing.T) {
	calls := []call{
		{"Set", 20, 5}, {"Set", 20, 1 << 61}, {"Set", 1, 7}, {"Set", 57, 9}, {"Set", 90, 3}, {"Set", 35, 0}, {"Set", -1, 2},
		{"Delete", 10, 0}, {"Delete", 20, 0}, {"Delete", 50, 0}, {"Delete", 1, 0}, {"Delete", 57, 0},
	}
	for _, x := range small() {
		for length, count := 1, len(calls); length <= 3; length, count = length+1, count*len(calls) {
			for sequence := range count {
				f := planted(made(t, 60), x, x)
				for step := range length {
					f.does(step%2, calls[sequence%len(calls)], -1)
					sequence /= len(calls)
				}
				if length < 3 {
					f.wantReads(0)
					f.wantReads(1)
				}
			}
		}
	}
}

// TestP12SmallInVain does each call with any room that is left, and with a power that goes at any write.
func TestP12SmallInVain(t *testing.T) {
	calls := []call{{"Set", 20, 5}, {"Set", 1, 7}, {"Set", 57, 9}, {"Set", 90, 3}, {"Delete", 10, 0}, {"Delete", 20, 0}, {"Delete", 50, 0}}
	for _, x := range small() {
		for _, c := range calls {
			for room := range 10 {
				for arm := -1; arm < 8; arm++ {
					f := planted(made(t, api.Slots+max(1, x.count()+room)), x)
					f.does(0, c, arm)
				}
			}
		}
	}
}

// numbers tells numbers in an order that is always the same, and looks like none.
type numbers uint64

func (n *numbers) below(limit int) int {
	*n = *n*6364136223846793005 + 1442695040888963407
	return int(uint64(*n)>>33) % limit
}

// swapping is some device, and some values for others. Few of them may not be.
func (n *numbers) swapping(f *forest) *swapping {
	s := &swapping{device: n.below(len(f.s.Roster().List)+1) - 1, noted: map[int]int{}, vals: map[int]int{}, became: map[*page]*page{}}
	for range n.below(5) {
		s.vals[1+n.below(9)] = 1 + n.below(9)
	}
	if n.below(8) == 0 {
		s.vals[1+n.below(9)] = []int{0, -1, 1 << 61, 1<<61 + 1}[n.below(4)]
	}
	return s
}

// swapAll swaps some or all trees, one behind the other, as long as nothing is refused that would leave the others aside.
func (n *numbers) swapAll(f *forest, arm int) {
	f.Helper()
	s := n.swapping(f)
	for i := range f.trees {
		if n.below(4) > 0 {
			f.swap(i, arm, s)
		}
	}
}

// copyTree lets a tree be another one, too.
func (n *numbers) copyTree(f *forest) {
	f.Helper()
	from, to := n.below(len(f.trees)), n.below(len(f.trees))
	if f.trees[from].page != nil {
		f.hold(f.trees[from].root)
	}
	if f.trees[to].page != nil {
		f.drop(f.trees[to].root)
	}
	f.trees[to] = f.trees[from]
	f.wantAll()
}

// drain lets nothing new be taken on a device, or all be taken again.
func (n *numbers) drain(f *forest) {
	f.Helper()
	r := f.s.Roster()
	device := n.below(len(r.List))
	if r.List[device].State == api.Active {
		r.List[device].State = api.Draining
	} else {
		r.List[device].State = api.Active
	}
	if r.Check() == nil {
		must(f.T, "Turn", f.s.Turn(r))
	}
}

// step does something to a forest, most often with a power that stays.
func (n *numbers) step(f *forest, keys int) {
	f.Helper()
	arm := -1
	if n.below(10) == 0 {
		arm = n.below(5)
	}
	i := n.below(len(f.trees))
	switch kind := n.below(100); {
	case kind < 45:
		f.set(i, n.below(keys), 1+n.below(9), arm)
	case kind < 85:
		key := n.below(keys)
		if pairs := f.trees[i].page.all(); len(pairs) > 0 && n.below(6) > 0 {
			key = pairs[n.below(len(pairs))].Key
		}
		f.delete(i, key, arm)
	case kind < 88:
		f.set(i, edges[n.below(len(edges))], edges[n.below(len(edges))], arm)
	case kind < 92:
		n.swapAll(f, arm)
	case kind < 96:
		n.copyTree(f)
	case kind < 98:
		n.drain(f)
	default:
		f.s.Settle()
	}
}

// wantSettled demands that all that is not of a tree is free behind Settle.
func (f *forest) wantSettled() {
	f.Helper()
	f.s.Settle()
	used := 0
	for device := range f.s.Roster().List {
		used += f.s.Used(device)
	}
	if used != len(f.p.Pages()) {
		f.Fatalf("%d are used, not %d", used, len(f.p.Pages()))
	}
}

// TestP12Long lets trees that share pages go through many changes, with devices that are nearly full, are left, or lose their power, and holds all that comes of it against the chapter's words.
func TestP12Long(t *testing.T) {
	for run := range 120 {
		next := numbers(run)
		r := rostered(10+next.below(60), 10+next.below(60), 10+next.below(20))
		r.List = r.List[:1+run%3]
		f := planted(sized(t, r), nil, nil, nil)
		for step := range 300 {
			// Now they grow, now they shrink.
			next.step(f, []int{9, 40, 200}[step/30%3])
			if next.below(20) == 0 {
				f.wantReads(next.below(len(f.trees)))
			}
		}
		f.wantSettled()
	}
}

// sized is a store over devices as a roster has them.
func sized(t *testing.T, r roster.Roster) *world {
	t.Helper()
	var sizes []int
	for _, e := range r.List {
		sizes = append(sizes, e.Size)
	}
	return over(t, banked(t, sizes...), r)
}

// TestP12_4Small swaps pairs of trees that share pages, and leaves any device, with values that change some of their leaves, any room and any power.
func TestP12_4Small(t *testing.T) {
	shared := above(leafOf(10, 20), leafOf(30))
	lone := leafOf(70, 80)
	pairs := [][]*page{
		{shared, shared}, {above(shared, above(lone)), shared}, {shared, above(shared, above(lone))}, {above(shared, above(lone)), above(above(leafOf(5)), shared)},
		{lone, lone}, {lone, nil}, {nil, lone}, {above(above(lone)), above(lone)},
	}
	for _, list := range pairs {
		for device := -1; device <= 3; device++ {
			for _, vals := range []map[int]int{nil, {1020: 9}, {1020: 1030, 1030: 1020}, {1070: 1070}, {1020: 0}, {1080: 1<<61 + 1}, {3: 0}, {1010: 1 << 61, 1070: 1}} {
				for room := range 9 {
					for arm := -1; arm < 5; arm++ {
						f := planted(made(t, 8, 8, api.Slots+1+room), list...)
						s := &swapping{device: device, vals: vals, noted: map[int]int{}, became: map[*page]*page{}}
						f.swap(0, arm, s)
						f.swap(1, -1, s)
					}
				}
			}
		}
	}
}
