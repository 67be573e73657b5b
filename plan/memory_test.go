package plan_test

import (
	"slices"
	"testing"

	"portage/api"
	"portage/plan"
)

// spare is a number that is in no list of these tests.
const spare = -77

// overwrite lays spare over all of a list, its spare room too, and appends it.
func overwrite(list []int) {
	whole := list[:cap(list)]
	for i := range whole {
		whole[i] = spare
	}
	_ = append(list, spare)
	_ = append(whole, spare)
}

// overwriteRegions lays regions of nothing over all of a list of regions, its spare room too, and appends one.
func overwriteRegions(list []plan.Region) {
	whole := list[:cap(list)]
	for i := range whole {
		whole[i] = plan.Region{Device: spare}
	}
	_ = append(list, plan.Region{Device: spare})
}

// cloneRegions is a copy of regions that shares nothing with them.
func cloneRegions(regions []plan.Region) []plan.Region {
	var clones []plan.Region
	for _, r := range regions {
		clones = append(clones, region(r.Device, slices.Clone(r.Addrs)...))
	}
	return clones
}

// lists are lists of addresses that are right: none, one, just a region, one more, several of one device and of several.
func lists() [][]int {
	var long []int
	for i := range 40 {
		long = append(long, (40-i)*777)
	}
	return [][]int{
		nil, {5}, {6, 5}, {4, 3, 2, 1}, {5, 4, 3, 2, 1}, {1, 2, 3, 4, 5, 6, 7, 8, 9, 10, 11, 12, 13},
		{4098, 2, 3, 4, 5, 6}, {past - 1, 4096, 4095, 1, 2}, long,
	}
}

// wrongLists are lists that are refused, none of which is sorted.
func wrongLists() [][]int {
	return [][]int{{0}, {5, 4, 5}, {5, 0, 4}, {past, 3, 2, 1}, {9, 8, 7, 6, 5, 4, 3, 2, 1, -1}, {4098, 2, 4098, 1}}
}

// roomy is a list with the same numbers and some spare room, and what is in all of it.
func roomy(list []int) (with, whole []int) {
	whole = append(slices.Clone(list), 91, 90, 93, 92)
	return whole[:len(list)], slices.Clone(whole)
}

func TestP17_3HandedInIsNotChanged(t *testing.T) {
	for _, list := range append(lists(), wrongLists()...) {
		with, whole := roomy(list)
		plan.Regions(with...)
		for device := -1; device <= api.MaxDevices; device++ {
			plan.First(device, with...)
		}
		if !slices.Equal(with[:len(whole)], whole) {
			t.Fatalf("what was handed in as %v is %v now", whole, with[:len(whole)])
		}
	}
}

// TestP17_3HandedInIsNotKept writes over what was handed in and over what was told, and demands that neither reaches the other.
func TestP17_3HandedInIsNotKept(t *testing.T) {
	for _, list := range lists() {
		with, whole := roomy(list)
		regions, err := plan.Regions(with...)
		want := cloneRegions(regions)
		var firsts [api.MaxDevices][]int
		for device := range firsts {
			firsts[device], _ = plan.First(device, with...)
		}
		overwrite(with)
		if err != nil || !slices.EqualFunc(regions, want, sameRegion) {
			t.Fatalf("what was told as %v is %v now, %v", want, regions, err)
		}
		for device, first := range firsts {
			wantFirst(t, device, list, first...)
		}
		copy(with[:len(whole)], whole)
		for _, r := range regions {
			overwrite(r.Addrs)
		}
		for _, first := range firsts {
			overwrite(first)
		}
		if !slices.Equal(with[:len(whole)], whole) {
			t.Fatalf("what was handed in as %v is %v now", whole, with[:len(whole)])
		}
		wantRegions(t, list, want...)
	}
}

// TestP17_3RegionsAreApart writes over each region of an answer in turn, and demands that no other one changes, nor another answer.
func TestP17_3RegionsAreApart(t *testing.T) {
	for _, list := range lists() {
		regions, _ := plan.Regions(list...)
		again, _ := plan.Regions(list...)
		want := cloneRegions(regions)
		for i, r := range regions {
			overwrite(r.Addrs)
			for _, later := range regions[i+1:] {
				if slices.Contains(later.Addrs[:cap(later.Addrs)], spare) {
					t.Fatalf("regions %v and %v of one answer share memory", want[i], later)
				}
			}
		}
		overwriteRegions(regions)
		if !slices.EqualFunc(again, want, sameRegion) {
			t.Fatalf("what was told as %v is %v now", want, again)
		}
		wantRegions(t, list, want...)
	}
}

func TestP17_3FirstIsNew(t *testing.T) {
	for _, list := range lists() {
		for device := range api.MaxDevices {
			first, _ := plan.First(device, list...)
			again, _ := plan.First(device, list...)
			want := slices.Clone(first)
			overwrite(first)
			if !slices.Equal(again, want) {
				t.Fatalf("what was told as %v is %v now", want, again)
			}
			wantFirst(t, device, list, want...)
		}
	}
}
