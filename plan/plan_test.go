package plan_test

import (
	"errors"
	"math"
	"slices"
	"testing"

	"portage/api"
	"portage/fault"
	"portage/plan"
)

// past is the first number that is above all addresses.
const past = api.MaxDevices * api.MaxSectors

// noAddrs are numbers that are no addresses.
var noAddrs = []int{0, -1, -2, -4097, -past, past, past + 1, past + 4096, 1 << 32, 1<<32 + 2, 1 << 40, math.MaxInt32, math.MinInt32, math.MaxInt - 1, math.MaxInt, math.MinInt, math.MinInt + 1}

// noDevices are numbers that no device has.
var noDevices = []int{-1, -2, api.MaxDevices, api.MaxDevices + 1, 256, 1 << 32, math.MaxInt32, math.MinInt32, math.MaxInt, math.MinInt}

// region is a region as it is to be told.
func region(device int, addrs ...int) plan.Region { return plan.Region{Device: device, Addrs: addrs} }

// sameRegion tells whether two regions are equal.
func sameRegion(a, b plan.Region) bool {
	return a.Device == b.Device && slices.Equal(a.Addrs, b.Addrs)
}

// wantRegions demands what Regions tells of the addresses.
func wantRegions(t *testing.T, addrs []int, want ...plan.Region) {
	t.Helper()
	got, err := plan.Regions(addrs...)
	if err != nil || !slices.EqualFunc(got, want, sameRegion) {
		t.Fatalf("Regions(%v): %v, %v, not %v", addrs, got, err, want)
	}
}

// wantFirst demands what First tells of a device and the addresses.
func wantFirst(t *testing.T, device int, addrs []int, want ...int) {
	t.Helper()
	got, err := plan.First(device, addrs...)
	if err != nil || !slices.Equal(got, want) {
		t.Fatalf("First(%d, %v): %v, %v, not %v", device, addrs, got, err, want)
	}
}

// wantCode demands an error that has the code and no fault around it.
func wantCode(t *testing.T, err error, want api.Code) {
	t.Helper()
	var f *fault.Fault
	if !errors.Is(err, want) || errors.As(err, &f) {
		t.Fatalf("the error is %v, not just the code %v", err, want)
	}
}

// wantNoRegions demands that Regions and First of all devices, also of ones that cannot be, tell ErrRegion and nothing beside it.
func wantNoRegions(t *testing.T, addrs ...int) {
	t.Helper()
	regions, err := plan.Regions(addrs...)
	if len(regions) != 0 {
		t.Fatalf("Regions(%v): %v beside an error", addrs, regions)
	}
	wantCode(t, err, api.ErrRegion)
	for device := -1; device <= api.MaxDevices; device++ {
		wantNoFirst(t, device, addrs, api.ErrRegion)
	}
	for _, device := range noDevices {
		wantNoFirst(t, device, addrs, api.ErrRegion)
	}
}

// wantNoFirst demands that First tells the code and nothing beside it.
func wantNoFirst(t *testing.T, device int, addrs []int, code api.Code) {
	t.Helper()
	told, err := plan.First(device, addrs...)
	if len(told) != 0 {
		t.Fatalf("First(%d, %v): %v beside an error", device, addrs, told)
	}
	wantCode(t, err, code)
}

func TestP17Example(t *testing.T) {
	wantRegions(t, []int{4098, 2, 3, 4, 5, 6}, region(0, 2, 3, 4, 5), region(0, 6), region(1, 4098))
	wantNumber(t, "Bound", 76)(plan.Bound(10, 1, 2))
}

func TestP17_1RegionsOfOneDevice(t *testing.T) {
	wantRegions(t, nil)
	wantRegions(t, []int{})
	wantRegions(t, []int{7}, region(0, 7))
	wantRegions(t, []int{9, 7, 8}, region(0, 7, 8, 9))
	wantRegions(t, []int{9, 7, 8, 6}, region(0, 6, 7, 8, 9))
	wantRegions(t, []int{9, 7, 8, 6, 5}, region(0, 5, 6, 7, 8), region(0, 9))
	wantRegions(t, []int{1, 1000, 10, 100, 2000, 20, 200, 2}, region(0, 1, 2, 10, 20), region(0, 100, 200, 1000, 2000))
	wantRegions(t, []int{30, 1, 1000, 10, 100, 2000, 20, 200, 2}, region(0, 1, 2, 10, 20), region(0, 30, 100, 200, 1000), region(0, 2000))
}

func TestP17_1RegionsOfSeveralDevices(t *testing.T) {
	// A region that is not full does not go on with the next device, nor does a device begin within another's region.
	wantRegions(t, []int{4096, 4095}, region(0, 4095), region(1, 4096))
	wantRegions(t, []int{4096, 4097, 4095, 4094, 4093}, region(0, 4093, 4094, 4095), region(1, 4096, 4097))
	wantRegions(t, []int{8191, 1, 8192, 2, 3, 4}, region(0, 1, 2, 3, 4), region(1, 8191), region(2, 8192))
	want := []plan.Region{}
	addrs := []int{}
	for device := range api.MaxDevices {
		base := device * api.MaxSectors
		want = append(want, region(device, base+2, base+3, base+4, base+5), region(device, base+9))
		addrs = append(addrs, base+9, base+2, base+5, base+3, base+4)
	}
	wantRegions(t, addrs, want...)
	slices.Reverse(addrs)
	wantRegions(t, addrs, want...)
	slices.Sort(addrs)
	wantRegions(t, addrs, want...)
	// A device that none is on is left out.
	wantRegions(t, []int{7*4096 + 1, 3*4096 + 1}, region(3, 3*4096+1), region(7, 7*4096+1))
}

func TestP17_1Ends(t *testing.T) {
	wantRegions(t, []int{1}, region(0, 1))
	wantRegions(t, []int{past - 1}, region(api.MaxDevices-1, past-1))
	wantRegions(t, []int{past - 1, 1}, region(0, 1), region(api.MaxDevices-1, past-1))
	for device := range api.MaxDevices {
		// A device's first sector is an address, too, but for the device 0, where it would be the number 0.
		first, last := device*api.MaxSectors, (device+1)*api.MaxSectors-1
		wantRegions(t, []int{last}, region(device, last))
		wantFirst(t, device, []int{last}, last)
		if device > 0 {
			wantRegions(t, []int{last, first, first - 1}, region(device-1, first-1), region(device, first, last))
			wantFirst(t, device, []int{last, first, first - 1}, first, last)
		}
	}
	for _, wrong := range noAddrs {
		wantNoRegions(t, wrong)
		wantNoRegions(t, wrong, 5)
		wantNoRegions(t, 5, wrong)
		wantNoRegions(t, 1, 2, 3, 4, 5, 4098, wrong, 6, 7, past-1)
		wantNoRegions(t, wrong, wrong)
	}
	wantNoRegions(t, noAddrs...)
}

func TestP17_1Twice(t *testing.T) {
	for _, addr := range []int{1, 2, 4095, 4096, 4098, past - 1} {
		wantNoRegions(t, addr, addr)
		wantNoRegions(t, addr, addr, addr)
		wantNoRegions(t, addr, 77, addr)
		wantNoRegions(t, 77, 78, addr, 79, 5000, addr, 80)
		wantNoRegions(t, addr, 77, 78, 79, 80, 81, 82, 83, 9000, addr)
	}
	// Where the two would stand at the end of one region and the beginning of the next one.
	wantNoRegions(t, 1, 2, 3, 4, 4)
	wantNoRegions(t, 4, 3, 2, 1, 4, 5, 6, 7)
}

func TestP17_1First(t *testing.T) {
	addrs := []int{3*4096 + 5, 9, 8, 3 * 4096, 7, 4095, 6, 5, past - 1}
	wantFirst(t, 0, addrs, 5, 6, 7, 8)
	wantFirst(t, 3, addrs, 3*4096, 3*4096+5)
	wantFirst(t, 7, addrs, past-1)
	for _, device := range []int{1, 2, 4, 5, 6} {
		wantFirst(t, device, addrs)
	}
	for device := range api.MaxDevices {
		wantFirst(t, device, nil)
		wantFirst(t, device, []int{})
	}
	for _, device := range noDevices {
		wantNoFirst(t, device, addrs, api.ErrRange)
		wantNoFirst(t, device, nil, api.ErrRange)
	}
}

// TestP17_1All has all addresses that there are, in an order that leaps about.
func TestP17_1All(t *testing.T) {
	var addrs []int
	for i := range past {
		// The number leaps over all places, since it has no divisor in common with how many there are.
		if addr := i * 20011 % past; addr != 0 {
			addrs = append(addrs, addr)
		}
	}
	if len(addrs) != past-1 {
		t.Fatalf("these are %d addresses", len(addrs))
	}
	wantRegions(t, addrs, wordRegions(addrs)...)
	for device := 1; device < api.MaxDevices; device++ {
		base := device * api.MaxSectors
		wantFirst(t, device, addrs, base, base+1, base+2, base+3)
	}
	wantNoRegions(t, append(addrs, 20011)...)
}
