package thin_test

import (
	"maps"
	"reflect"
	"slices"
	"testing"

	"portage/api"
	"portage/bank"
	"portage/btree"
	"portage/catalog"
	"portage/node"
	"portage/pages"
	"portage/refs"
	"portage/roster"
	"portage/space"
	"portage/thin"
)

// lower is what stands below a manager, put together by hand, so that it may be wrong.
type lower struct {
	*testing.T
	b *bank.Bank
	r roster.Roster
	s *space.Space
	p *pages.Store
	c *catalog.Catalog
}

// below is that, over devices of so many sectors.
func below(t *testing.T, sizes ...int) *lower {
	t.Helper()
	w := made(t, sizes...)
	s, err := space.New(rostered(sizes...))
	must(t, "space.New", err)
	p := pages.New(w.b, s)
	return &lower{t, w.b, rostered(sizes...), s, p, catalog.New(p)}
}

// tree is a tree with these pairs.
func (l *lower) tree(pairs map[int]int) int {
	l.Helper()
	root := 0
	for _, key := range slices.Sorted(maps.Keys(pairs)) {
		next, err := btree.Set(l.p, root, key, pairs[key])
		must(l.T, "Set", err)
		root = next
	}
	return root
}

// put is a page, whatever it tells.
func (l *lower) put(level int, keys, vals []int) int {
	l.Helper()
	addr, err := l.p.Put(node.Node{Level: level, Keys: keys, Vals: vals})
	must(l.T, "Put", err)
	return addr
}

// save saves these volumes.
func (l *lower) save(list ...catalog.Volume) int {
	l.Helper()
	for _, v := range list {
		must(l.T, "Put", l.c.Put(v))
	}
	must(l.T, "Save", l.c.Save())
	return l.c.Root()
}

// load tells the manager of a tree.
func (l *lower) load(root int) *world {
	l.Helper()
	m, err := thin.Load(l.b, l.r, root)
	must(l.T, "Load", err)
	return &world{l.T, l.b, m}
}

// refuses demands that Load tells this error, and no manager.
func (l *lower) refuses(root int, want error) {
	l.Helper()
	m, err := thin.Load(l.b, l.r, root)
	wantError(l.T, "Load", err, want)
	if m != nil {
		l.Fatal("Load tells a manager beside an error")
	}
}

func TestP14_6Load(t *testing.T) {
	for name, scene := range scenes() {
		for _, devices := range [][]int{{150}, {80, 90}, {60, 50, 40}} {
			saved := func() *world {
				w := made(t, devices...)
				scene(w)
				w.m.Commit()
				w.save()
				w.m.Settle()
				return w
			}
			w := saved()
			done := w.b.Done()
			w.wantLoaded()
			if w.b.Done() != done {
				t.Fatalf("%s: Load writes", name)
			}
			// It goes on as the other one does.
			begin := (*thin.Manager).Begin
			other := saved()
			other = other.another(other.m.Root())
			if got, want := other.answers(nil, begin), w.answers(nil, begin); !reflect.DeepEqual(got, want) {
				t.Fatalf("%s: the loaded one answers %+v, not %+v", name, got, want)
			}
			other.back()
			other.wantEmpty()
		}
	}
}

func TestP14_6LoadNothing(t *testing.T) {
	w := made(t, 60, 50)
	w.content()
	other := w.another(0)
	other.wantList()
	other.wantOwn()
	if other.m.Root() != 0 || other.m.Space().Free() != 106 {
		t.Errorf("%d are free, the tree is %d", other.m.Space().Free(), other.m.Root())
	}
	other.create(1, 5)
	other.write(1, 0, 1, 2, 3)
	other.wantEmpty()
	m, err := thin.Load(bank.New(), roster.Roster{}, 0)
	must(t, "Load", err)
	(&world{t, nil, m}).wantList()
}

// TestP14_6LoadFresh demands that what was loaded is neither fresh nor fenced.
func TestP14_6LoadFresh(t *testing.T) {
	w := made(t, 60, 50)
	w.content()
	w.save()
	w.m.Settle()
	w = w.another(w.m.Root())
	addr := w.m.Map(1, 0)
	w.wantStays(1, 0, 50)
	// The snapshot's block was fenced when its owner left it; that was settled.
	w.wantStays(2, 0, 51)
	w.wantStays(4, 2, 52)
	w.wantMoves(1, 5, 53)
	w.discard(1, 0, 1)
	if w.isFree(addr) || w.m.Space().Taken(addr) {
		t.Errorf("%d is free at once, or taken", addr)
	}
	w.m.Settle()
	if !w.isFree(addr) {
		t.Errorf("%d is not free", addr)
	}
}

// TestP14_6LoadRefused demands layer 8's error of a roster that is not right, and layer 13's error of Load.
func TestP14_6LoadRefused(t *testing.T) {
	l := below(t, 60, 50)
	good := l.save(catalog.Volume{Id: 1, Size: 5}, catalog.Volume{Id: 2, Size: 7, Origin: 1})
	l.load(good).wantList(thin.Info{Id: 1, Size: 5}, thin.Info{Id: 2, Size: 7, Origin: 1})
	for _, root := range append([]int{good + 20, 60, space.Addr(1, 50), space.Addr(2, 2)}, edges...) {
		if root == 0 || root == good {
			continue
		}
		s, err := space.New(l.r)
		must(t, "space.New", err)
		_, want := catalog.Load(pages.New(l.b, s), root)
		if want == nil {
			t.Fatalf("the tree %d can be loaded", root)
		}
		l.refuses(root, want)
	}
	l.refuses(l.tree(map[int]int{5: 7}), api.ErrNode)
	l.refuses(l.put(1, []int{4, 9}, []int{l.put(0, []int{4, 10}, []int{5, 5}), l.put(0, []int{9}, []int{5})}), api.ErrNode)
	device, sector := space.At(good)
	must(t, "Bad", l.b.Bad(device, sector, true))
	l.refuses(good, brokenPage("read", good, api.ErrRead))
	must(t, "Bad", l.b.Bad(device, sector, false))
	m, err := thin.Load(l.b, rostered(60, 2), good)
	wantError(t, "Load", err, api.ErrForm)
	if m != nil {
		t.Error("Load tells a manager beside an error")
	}
	l.b.Arm(0)
	wantError(t, "Write", l.b.Write(0, 0, of(1)), broken("write", 0, api.ErrDown))
	l.refuses(good, brokenPage("read", good, api.ErrDown))
}

// TestP14_6WrongPairs loads volumes whose trees have keys that are no blocks, or values that are no addresses of blocks.
func TestP14_6WrongPairs(t *testing.T) {
	for _, size := range []int{1, 2, 20, api.MaxBlocks} {
		for key, wrong := range map[int]bool{0: false, size - 1: false, size: true, size + 1: true, 1 << 40: true} {
			l := below(t, 60, 50)
			root := l.save(catalog.Volume{Id: 1, Size: size, Root: l.tree(map[int]int{key: 40})})
			if wrong {
				l.refuses(root, api.ErrNode)
				continue
			}
			w := l.load(root)
			if w.m.Map(1, key) != 40 {
				t.Fatalf("the block %d is at %d", key, w.m.Map(1, key))
			}
			w.wantOwn()
		}
	}
	for _, addr := range append([]int{59, 60, space.Addr(1, 0), space.Addr(1, 1), space.Addr(1, 2), space.Addr(1, 49), space.Addr(1, 50), space.Addr(2, 5), space.Addr(3, 1), space.Addr(3, 2), space.Addr(3, 49), space.Addr(3, 50), space.Addr(4, 5), api.MaxDevices * api.MaxSectors}, edges...) {
		if addr < 1 || addr > 1<<61 {
			continue
		}
		l := below(t, 60, 50)
		l.r.List = append(l.r.List, roster.Entry{State: api.Removed, Size: 50}, roster.Entry{State: api.Draining, Size: 50})
		root := l.save(catalog.Volume{Id: 1, Size: 5, Root: l.tree(map[int]int{1: 30, 3: addr})})
		device, sector := space.At(addr)
		inRoom := device >= 0 && device < 4 && device != 2 && sector >= 2 && sector < []int{60, 50, 50, 50}[device]
		if !inRoom || slices.Contains(l.p.Pages(), addr) {
			l.refuses(root, api.ErrNode)
			continue
		}
		w := l.load(root)
		if w.m.Map(1, 3) != addr || !slices.Equal(w.m.Owners(addr), []refs.Owner{{Vol: 1, Block: 3}}) {
			t.Fatalf("the block is at %d, not %d", w.m.Map(1, 3), addr)
		}
		w.wantOwn()
	}
}

// TestP14_6Pages loads volumes whose trees name pages as blocks: their own, another volume's, or the catalog's.
func TestP14_6Pages(t *testing.T) {
	for name, wrong := range map[string]func(l *lower) int{
		"another's, ahead of it": func(l *lower) int {
			other := l.tree(map[int]int{1: 40})
			return l.save(catalog.Volume{Id: 1, Size: 5, Root: other}, catalog.Volume{Id: 2, Size: 5, Root: l.tree(map[int]int{1: other})})
		},
		"another's, behind it": func(l *lower) int {
			other := l.tree(map[int]int{1: 40})
			return l.save(catalog.Volume{Id: 2, Size: 5, Root: other}, catalog.Volume{Id: 1, Size: 5, Root: l.tree(map[int]int{1: other})})
		},
		"its own": func(l *lower) int {
			leaf := l.put(0, []int{1}, []int{40})
			return l.save(catalog.Volume{Id: 1, Size: 5, Root: l.put(1, []int{1, 2}, []int{leaf, l.put(0, []int{2}, []int{leaf})})})
		},
		"itself": func(l *lower) int {
			// The space gives 3 next.
			first := l.put(0, []int{1}, []int{40})
			return l.save(catalog.Volume{Id: 1, Size: 5, Root: l.put(0, []int{1}, []int{first + 1})})
		},
		"the catalog's": func(l *lower) int {
			root := l.tree(map[int]int{1: 3})
			saved := l.save(catalog.Volume{Id: 1, Size: 5, Root: root})
			if saved == 3 {
				return saved
			}
			return l.save(catalog.Volume{Id: 1, Size: 5, Root: root}, catalog.Volume{Id: 2, Size: 5})
		},
	} {
		l := below(t, 60)
		root := wrong(l)
		m, err := thin.Load(l.b, l.r, root)
		if m != nil || err != api.ErrNode {
			t.Errorf("%s: %v", name, err)
		}
	}
}

// TestP14_6NotRight loads volumes whose trees can be adopted, but are not right.
func TestP14_6NotRight(t *testing.T) {
	for name, wrong := range map[string]func(l *lower) int{
		"another least key": func(l *lower) int {
			return l.put(1, []int{0, 3}, []int{l.put(0, []int{1}, []int{40}), l.put(0, []int{3}, []int{41})})
		},
		"a key past the next": func(l *lower) int {
			return l.put(1, []int{1, 3}, []int{l.put(0, []int{1, 4}, []int{40, 42}), l.put(0, []int{3}, []int{41})})
		},
		"a key there twice": func(l *lower) int {
			return l.put(1, []int{1, 3}, []int{l.put(0, []int{1, 3}, []int{40, 42}), l.put(0, []int{3}, []int{41})})
		},
		"one page there twice": func(l *lower) int {
			leaf := l.put(0, []int{1}, []int{40})
			return l.put(1, []int{1, 2}, []int{leaf, leaf})
		},
	} {
		for _, id := range []int{1, 3} {
			l := below(t, 60)
			good := l.tree(map[int]int{1: 50})
			m, err := thin.Load(l.b, l.r, l.save(catalog.Volume{Id: id, Size: 9, Root: wrong(l)}, catalog.Volume{Id: 2, Size: 9, Root: good}))
			if m != nil || err != api.ErrNode {
				t.Errorf("%s: %v", name, err)
			}
		}
	}
	l := below(t, 60)
	l.load(l.save(catalog.Volume{Id: 1, Size: 9, Root: l.put(1, []int{1, 3}, []int{l.put(0, []int{1, 2}, []int{40, 42}), l.put(0, []int{3}, []int{41})})})).wantOwn()
}

// TestP14_6SharedBlocks loads volumes two blocks of which are at one address, though their trees share nothing: none of them is written where it is.
func TestP14_6SharedBlocks(t *testing.T) {
	l := below(t, 60)
	must(t, "Write", l.b.Write(0, 40, of(7)))
	w := l.load(l.save(catalog.Volume{Id: 1, Size: 9, Root: l.tree(map[int]int{1: 40, 2: 40, 4: 40})}, catalog.Volume{Id: 2, Size: 9, Root: l.tree(map[int]int{5: 40})}))
	if got := w.m.Owners(40); !slices.Equal(got, []refs.Owner{{Vol: 1, Block: 1}, {Vol: 1, Block: 2}, {Vol: 1, Block: 4}, {Vol: 2, Block: 5}}) {
		t.Fatalf("Owners: %v", got)
	}
	w.wantOwn()
	w.wantMoves(1, 1, 8)
	w.wantMoves(2, 5, 9)
	w.want(1, 1, 8, 7, 0, 7)
	w.write(1, 2, 10, 11, 12)
	w.want(1, 1, 8, 10, 11, 12)
	if w.m.Space().Taken(40) {
		t.Error("40 is taken")
	}
	w.wantOwn()
	w = l.load(l.c.Root())
	w.resize(1, 2)
	w.delete(2)
	w.wantMoves(1, 1, 13)
	w.wantOwn()
	w.wantEmpty()
}

// TestP14_6AnyBytes loads what stands on devices of which one byte or one sector is another one, or all are: it is refused, or what comes is right.
func TestP14_6AnyBytes(t *testing.T) {
	w := made(t, 40, 30)
	w.content()
	w.save()
	w.m.Settle()
	root := w.m.Root()
	next := numbers(1)
	for _, addr := range w.m.Pages() {
		device, sector := space.At(addr)
		was, err := w.b.Read(device, sector)
		must(t, "Read", err)
		for range 40 {
			data := slices.Clone(was)
			switch next.below(4) {
			case 0:
				data[next.below(len(data))]++
			case 1:
				other := w.m.Pages()[next.below(len(w.m.Pages()))]
				d, s := space.At(other)
				data, err = w.b.Read(d, s)
				must(t, "Read", err)
			default:
				n, err := node.Parse(was)
				must(t, "Parse", err)
				at := next.below(len(n.Keys))
				n.Vals[at] = []int{1, 2 + next.below(38), space.Addr(1, 2+next.below(28)), n.Vals[at] + 1, 1 << 61}[next.below(5)]
				data, err = n.Bytes()
				must(t, "Bytes", err)
			}
			must(t, "Write", w.b.Write(device, sector, data))
			m, err := thin.Load(w.b, w.m.Space().Roster(), root)
			if err == nil {
				other := &world{t, w.b, m}
				other.wantOwn()
				m.Begin()
				m.Write(1, 0, of(span(1, 8)...))
				m.Snapshot(9, 2)
				m.Discard(2, 0, 5)
				m.Save()
				other.wantOwn()
				m.Back()
				other.wantOwn()
			} else if m != nil {
				t.Fatal("Load tells a manager beside an error")
			}
			must(t, "Write", w.b.Write(device, sector, was))
		}
	}
	for _, data := range [][]byte{nil, {255}, {0, 2, 1}} {
		must(t, "Fill", w.b.Fill(0, data))
		must(t, "Fill", w.b.Fill(1, data))
		wantError(t, "Load", func() error { _, err := thin.Load(w.b, w.m.Space().Roster(), root); return err }(), func() error {
			s, _ := space.New(w.m.Space().Roster())
			return pages.New(w.b, s).Adopt(root)
		}())
	}
}

// numbers tells numbers in an order that is always the same, and looks like none.
type numbers uint64

func (n *numbers) below(limit int) int {
	*n = *n*6364136223846793005 + 1442695040888963407
	return int(uint64(*n)>>33) % limit
}
