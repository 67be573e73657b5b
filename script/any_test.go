package script_test

import (
	"math/rand"
	"regexp"
	"slices"
	"strconv"
	"strings"
	"testing"

	"portage/api"
	"portage/script"
)

// shapes are the answers of words, by what is told behind the ok.
var shapes = map[string]*regexp.Regexp{
	"read": regexp.MustCompile(`\Aok ([0-9a-f]{2}){1,8}\z`),
	"move": regexp.MustCompile(`\Aok [1-6]\z`),
	"":     regexp.MustCompile(`\Aok\z`),
}

// refusals are the errors that a line may be answered with: layer 4's, 14's, 18's and 19's, and those of the layers that they name.
var refusals = []api.Code{
	api.ErrRange, api.ErrRead, api.ErrDown, api.ErrDevice, api.ErrMany, api.ErrGone, api.ErrState, api.ErrNone, api.ErrFull,
	api.ErrNode, api.ErrVolume, api.ErrExists, api.ErrBlocks, api.ErrLength, api.ErrBusy, api.ErrIdle, api.ErrSpace,
}

// wantShape demands that a line may be answered so at all.
func wantShape(t *testing.T, l script.Line, answer string) {
	t.Helper()
	if number, ok := strings.CutPrefix(answer, "error "); ok {
		if n, err := strconv.Atoi(number); err != nil || strconv.Itoa(n) != number || !slices.Contains(refusals, api.Code(n)) {
			t.Fatalf("%v: %q", l, answer)
		}
		return
	}
	shape, ok := shapes[l.Word]
	if !ok {
		shape = shapes[""]
	}
	if !shape.MatchString(answer) || l.Word == "read" && len(answer) != len("ok ")+2*l.Numbers[2] {
		t.Fatalf("%v: %q", l, answer)
	}
}

// mix says how often which word comes, and how often a number is any that may be, in a hundred.
type mix struct {
	names string
	wild  int
}

// mixes are of calls that go well, of such with crashes, and of all that may come to devices.
var mixes = []mix{
	{"create create snap delete resize read read read write write write write write discard flush device extend add grow evacuate evacuate cancel move move move move move move", 0},
	{"create snap delete resize read read write write write write discard flush device add evacuate evacuate cancel move move move move move move arm crash crash", 2},
	{"create snap delete resize read write write write discard flush device extend add grow evacuate evacuate cancel move move move move arm crash crash bad bad fill detach", 5},
	{"write write write read read evacuate evacuate move move move move move move bad bad bad bad crash", 1},
	{"create write read crash crash fill detach bad arm device add", 30},
}

// someNumber is a number that a word's place may have a use for, or any.
func someNumber(r *rand.Rand, name string, at int, wild int) int {
	if r.Intn(100) < wild {
		return []int{0, 1, 2, 9, 64, 255, 256, 4096, 1 << 20, 1<<20 + 1, greatest - 1, greatest, r.Intn(greatest), r.Intn(1 << r.Intn(31))}[r.Intn(14)]
	}
	switch name {
	case "create", "snap", "delete", "resize", "read", "write", "discard":
		return []int{1 + r.Intn(4), r.Intn(24), 1 + r.Intn(8), 1 + r.Intn(8)}[at]
	case "device", "extend":
		return []int{r.Intn(40), 1 + r.Intn(9)}[at]
	case "arm":
		return r.Intn(30)
	case "crash":
		return r.Intn(4)
	case "bad":
		return []int{r.Intn(4), r.Intn(24), r.Intn(2)}[at]
	}
	return r.Intn(4)
}

// someLines are so many lines of a mix.
func someLines(r *rand.Rand, m mix, count int) []script.Line {
	names := strings.Fields(m.names)
	var list []script.Line
	for range count {
		l := line(names[r.Intn(len(names))])
		w := words[slices.IndexFunc(words, func(w word) bool { return w.name == l.Word })]
		for at := range w.least + r.Intn(w.most-w.least+1)*r.Intn(2) {
			l.Numbers = append(l.Numbers, someNumber(r, l.Word, at, m.wild))
		}
		list = append(list, l)
	}
	return list
}

// TestP21_3Any plays many scripts: nothing panics, the same is answered once more and by hand, and each answer is one that the line may have.
func TestP21_3Any(t *testing.T) {
	r := rand.New(rand.NewSource(2133))
	told := map[string]int{}
	for range 300 {
		for _, m := range mixes {
			var sizes []int
			for range 1 + r.Intn(4) {
				sizes = append(sizes, 3+r.Intn(40))
			}
			lines := someLines(r, m, r.Intn(120))
			for i, answer := range runLines(t, sizes, lines) {
				wantShape(t, lines[i], answer)
				told[answer]++
			}
		}
	}
	for _, code := range refusals {
		if answer := "error " + strconv.Itoa(int(code)); told[answer] == 0 {
			t.Errorf("no line was answered %s: that says nothing of it", answer)
		}
	}
	for did := range 6 {
		if answer := "ok " + strconv.Itoa(did+1); told[answer] == 0 {
			t.Errorf("no move was answered %s: that says nothing of it", answer)
		}
	}
}
