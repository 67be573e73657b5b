package thin_test

import (
	"slices"
	"testing"

	"portage/refs"
	"portage/roster"
	"portage/space"
	"portage/thin"
)

// overwrite lays something over all of a list, its spare room too, and appends to it.
func overwrite[T any](list []T, with T) {
	_ = append(list, with)
	for i := range list[:cap(list)] {
		list[:cap(list)][i] = with
	}
	_ = append(list[:cap(list)], with)
}

// alone demands that two answers of one call share no memory.
func alone[T comparable](w *world, what string, with T, ask func() []T) {
	w.Helper()
	first, second := ask(), ask()
	whole := second[:cap(second)]
	want := slices.Clone(whole)
	overwrite(first, with)
	if !slices.Equal(whole, want) {
		w.Fatalf("two answers of %s share memory: %v", what, second)
	}
	overwrite(second, with)
}

// spoil writes over all that is told, and demands that nothing that is told later changes.
func (w *world) spoil() {
	w.Helper()
	before := w.tells()
	alone(w, "List", thin.Info{Id: -78, Size: -78, Origin: -78, Mapped: -78}, w.m.List)
	alone(w, "Data", -78, w.m.Data)
	alone(w, "Pages", -78, w.m.Pages)
	for _, addr := range slices.Concat(before.Data, before.Pages, []int{0, -1}) {
		alone(w, "Owners", refs.Owner{Vol: -78, Block: -78}, func() []refs.Owner { return w.m.Owners(addr) })
	}
	for _, info := range before.List {
		for block := 0; block < info.Size; block += 5 {
			alone(w, "Read", 238, func() []byte {
				data, err := w.m.Read(info.Id, block, min(3, info.Size-block))
				must(w.T, "Read", err)
				return data
			})
		}
	}
	alone(w, "Roster", roster.Entry{State: -78, Size: -78}, func() []roster.Entry { return w.m.Space().Roster().List })
	wantSame(w.T, "what is told", w.tells(), before)
}

// TestP14_7ToldIsNew writes over all that is told, at each step of a manager's life.
func TestP14_7ToldIsNew(t *testing.T) {
	w := made(t, 80, 70)
	w.spoil()
	w.create(1, 20)
	w.spoil()
	w.write(1, 0, span(238, 8)...)
	w.spoil()
	w.delete(1)
	w.content()
	w.spoil()
	for _, change := range changing() {
		w.begin()
		w.spoil()
		change(w)
		w.spoil()
		w.back()
		w.spoil()
	}
	w.save()
	w.m.Settle()
	w.another(w.m.Root()).spoil()
	w.begin()
	w.write(1, 3, 9)
	w.commit()
	w.spoil()
	w.wantEmpty()
}

// TestP14_7ToldStays demands that what was told is not changed by what comes later.
func TestP14_7ToldStays(t *testing.T) {
	w := made(t, 80, 70)
	w.content()
	before := w.tells()
	again := w.tells()
	data, err := w.m.Read(1, 0, 8)
	must(t, "Read", err)
	was := slices.Clone(data)
	w.write(1, 0, span(100, 8)...)
	w.begin()
	changing()["Swap"](w)
	w.back()
	for _, info := range w.m.List() {
		w.delete(info.Id)
	}
	w.m.Settle()
	w.create(1, 100)
	for block := range 30 {
		w.write(1, block, 200)
	}
	wantSame(t, "what was told", before, again)
	if !slices.Equal(data, was) {
		t.Error("what Read told is changed")
	}
}

// spare is a list with spare room, both of which may be looked at later.
func spare[T any](list []T, with T) []T {
	long := append(slices.Clone(list), with, with, with)
	return long[:len(list)]
}

// TestP14_7HandedIn demands that what is handed in is not changed, and that what is written over it later changes nothing.
func TestP14_7HandedIn(t *testing.T) {
	r := rostered(80, 70)
	handed := spare(r.List, roster.Entry{State: 9, Size: 9})
	w := over(t, roster.Roster{List: handed}, 80, 70)
	overwrite(handed, roster.Entry{State: 9, Size: 9})
	if !w.m.Space().Roster().Same(r) {
		t.Fatalf("the roster is %v", w.m.Space().Roster())
	}
	w.create(1, 40)

	handedIn := func(block int, list []int) {
		t.Helper()
		data := spare(of(list...), 238)
		long := slices.Clone(data[:cap(data)])
		must(t, "Write", w.m.Write(1, block, data))
		if !slices.Equal(data[:cap(data)], long) {
			t.Fatal("Write changes what it is handed")
		}
		overwrite(data, 238)
		w.want(1, block, list...)
	}
	handedIn(0, span(1, 8))
	handedIn(2, span(11, 3))
	w.snapshot(2, 1)
	handedIn(0, span(21, 8))
	w.begin()
	handedIn(0, span(31, 8))
	w.commit()
	handedIn(0, span(41, 8))

	drained, err := r.Drain(0)
	must(t, "Drain", err)
	handed = spare(drained.List, roster.Entry{State: 9, Size: 9})
	must(t, "Turn", w.m.Turn(roster.Roster{List: handed}))
	overwrite(handed, roster.Entry{State: 9, Size: 9})
	if !w.m.Space().Roster().Same(drained) {
		t.Fatalf("the roster is %v", w.m.Space().Roster())
	}

	from, to := w.copies(0, 5)
	from, to = spare(from, -78), spare(to, -78)
	wasFrom, wasTo := slices.Clone(from[:cap(from)]), slices.Clone(to[:cap(to)])
	must(t, "Swap", w.m.Swap(0, from, to))
	if !slices.Equal(from[:cap(from)], wasFrom) || !slices.Equal(to[:cap(to)], wasTo) {
		t.Fatal("Swap changes what it is handed")
	}
	before := w.tells()
	overwrite(from, -78)
	overwrite(to, -78)
	wantSame(t, "Swap", w.tells(), before)

	w.save()
	w.m.Settle()
	handed = spare(drained.List, roster.Entry{State: 9, Size: 9})
	m, err := thin.Load(w.b, roster.Roster{List: handed}, w.m.Root())
	must(t, "Load", err)
	overwrite(handed, roster.Entry{State: 9, Size: 9})
	wantSame(t, "Load", (&world{t, w.b, m}).tells(), w.tells())
}

// TestP14_7SwapOrder demands that Swap leaves the order of what it is handed, wherever it is refused.
func TestP14_7SwapOrder(t *testing.T) {
	w := made(t, 80, 70)
	w.content()
	data := w.m.Data()
	slices.Reverse(data)
	var to []int
	for range data {
		addr, err := w.m.Space().Take()
		must(t, "Take", err)
		to = append(to, addr)
	}
	slices.Reverse(to)
	wasData, wasTo := slices.Clone(data), slices.Clone(to)
	for _, addr := range []int{-1, data[0], w.m.Pages()[0], to[1], space.Addr(1, 69)} {
		wrong := slices.Clone(to)
		wrong[0] = addr
		was := slices.Clone(wrong)
		if w.m.Swap(0, data, wrong) == nil || !slices.Equal(wrong, was) || !slices.Equal(data, wasData) {
			t.Fatalf("Swap with %d: %v, %v", addr, data, wrong)
		}
	}
	must(t, "Swap", w.m.Swap(-1, data, to))
	if !slices.Equal(data, wasData) || !slices.Equal(to, wasTo) {
		t.Fatalf("Swap: %v, %v", data, to)
	}
	w.wantOwn()
}
