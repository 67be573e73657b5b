package btree_test

import (
	"maps"
	"slices"
	"testing"

	"portage/btree"
	"portage/node"
)

// written is laid over what was told.
const written = -78

// overwrite lays something over all of a list, its spare room too, and appends to it.
func overwrite[T any](list []T, x T) {
	_ = append(list, x)
	for i := range list[:cap(list)] {
		list[:cap(list)][i] = x
	}
	_ = append(list[:cap(list)], x)
}

// spoil writes over all that is told of a tree, each told twice, and demands that neither the other answer nor the store is changed by it.
func spoil(f *forest, i int) {
	f.Helper()
	before, root := f.tells(), f.trees[i].root
	pair := node.Pair{Key: written, Val: written}
	for _, from := range []int{0, 20, 75} {
		for _, limit := range []int{-1, 1, 3, 100} {
			first, second := btree.Items(f.p, root, from, limit), btree.Items(f.p, root, from, limit)
			want := slices.Clone(second)
			overwrite(first, pair)
			if !slices.Equal(second, want) || slices.Contains(second[:cap(second)], pair) {
				f.Fatalf("two answers of Items share memory: %v", second)
			}
			wantSame(f.T, "Items", f.tells(), before)
		}
	}
	first, second := btree.Pages(f.p, root), btree.Pages(f.p, root)
	want := slices.Clone(second)
	overwrite(first, written)
	if !slices.Equal(second, want) || slices.Contains(second[:cap(second)], written) {
		f.Fatalf("two answers of Pages share memory: %v", second)
	}
	wantSame(f.T, "Pages", f.tells(), before)
	f.wantReads(i)
}

func TestP12_5ToldIsNew(t *testing.T) {
	f := layTrees(t).forest
	f.trees = append(f.trees, tree{})
	s := swapWith(0, map[int]int{1010: 5})
	for i := range f.trees {
		spoil(f, i)
	}
	f.set(0, 75, 5, -1)
	f.delete(1, 30, -1)
	f.swap(2, -1, s)
	f.set(3, 75, 5, -1)
	for i := range f.trees {
		spoil(f, i)
	}
}

// TestP12_5ToldStays demands that what was told stays as it was, when the tree goes on.
func TestP12_5ToldStays(t *testing.T) {
	f := layTrees(t)
	items, pages := btree.Items(f.p, f.trees[0].root, 0, -1), btree.Pages(f.p, f.trees[0].root)
	wantItems, wantPages := slices.Clone(items), slices.Clone(pages)
	for key := range 100 {
		f.set(0, key, 5, -1)
	}
	for key := range 100 {
		f.delete(0, key, -1)
	}
	if !slices.Equal(items, wantItems) || !slices.Equal(pages, wantPages) {
		t.Errorf("what was told is now %v, %v", items, pages)
	}
}

// TestP12_5MapsAreNotKept changes the maps behind Swap, and wants the trees as if nobody had.
func TestP12_5MapsAreNotKept(t *testing.T) {
	f := layTrees(t)
	s := swapWith(0, map[int]int{1010: 5, 1080: 6})
	was := maps.Clone(s.vals)
	f.swap(0, -1, s)
	if !maps.Equal(s.vals, was) {
		t.Errorf("vals: %v", s.vals)
	}
	s.vals[1010], s.vals[1030] = 7, 0
	clear(s.noted)
	f.wantReads(0)
	f.wantAll()
	f.set(0, 1, 1, -1)
	f.delete(0, 10, -1)
	f.wantReads(0)
}
