package script_test

import (
	"slices"
	"strings"
	"testing"

	"portage/script"
)

// spare is a number that is in no line of these tests.
const spare = -77

// overwrite lays something over all of a list, its spare room too, and appends to it.
func overwrite[T any](list []T, with T) {
	whole := list[:cap(list)]
	for i := range whole {
		whole[i] = with
	}
	_ = append(list, with)
	_ = append(whole, with)
}

// spoil writes over lines, and over the numbers of each.
func spoil(lines []script.Line) {
	for _, l := range lines {
		overwrite(l.Numbers, spare)
	}
	overwrite(lines, line("spoilt", spare))
}

// copied are the same lines in memory of their own.
func copied(lines []script.Line) []script.Line {
	lines = slices.Clone(lines)
	for i := range lines {
		lines[i].Numbers = slices.Clone(lines[i].Numbers)
	}
	return lines
}

// roomy are the same lines, whose list and numbers have spare room with something in it.
func roomy(lines []script.Line) []script.Line {
	var list []script.Line
	for _, l := range lines {
		numbers := append(slices.Clone(l.Numbers), 91, 92, 93)
		list = append(list, line(l.Word, numbers[:len(l.Numbers)]...))
	}
	list = append(list, line("spare", 94), line("room"))
	return list[:len(lines)]
}

// wantWhole demands that lines are what they were, in their spare room and their numbers' too.
func wantWhole(t *testing.T, what string, lines []script.Line) {
	t.Helper()
	rest := lines[len(lines) : len(lines)+2]
	if !sameLine(rest[0], line("spare", 94)) || !sameLine(rest[1], line("room")) {
		t.Fatalf("%s changes the lines' spare room: %v", what, rest)
	}
	for _, l := range lines {
		end := len(l.Numbers)
		if got := l.Numbers[end : end+3]; !slices.Equal(got, []int{91, 92, 93}) {
			t.Fatalf("%s changes the spare room of %v: %v", what, l, got)
		}
	}
}

// played are lines of each word, which are answered in each way.
func played(t *testing.T) []script.Line {
	t.Helper()
	text := "create 1 20\nwrite 1 0 7 8\nflush\nsnap 2 1\nwrite 1 1 9 2\nread 1 0 8\nread 2 0 3\nread 9 0 1\ndiscard 2 0 1\nresize 2 9\ndevice 30\nextend 2 5\nadd 2\ngrow 2\nevacuate 0\n" +
		strings.Repeat("move\n", 5) + "crash 3 1 0 2 5\ncancel\nbad 1 3 1\nbad 1 3 0\narm 2\nwrite 1 0 5 8\nread 1 0 1\ncrash" + strings.Repeat(" 1 0", 32) + "\nread 1 0 8\ndelete 2\nfill 2 7\ndetach 2\ncrash\nread 1 0 8\n"
	lines, _, err := script.Parse(text)
	if err != nil {
		t.Fatalf("Parse: %v", err)
	}
	return lines
}

// TestP21_4HandedIn demands that neither Show nor Run changes what it is handed, whether it is refused or not.
func TestP21_4HandedIn(t *testing.T) {
	right := played(t)
	wrong := append(copied(right), line("move", 1), line("crash", upTo(0, 65)...), line("Create", 5, 3), line("arm", -1))
	for _, list := range [][]script.Line{nil, right, wrong, wrong[len(right):]} {
		lines := roomy(list)
		script.Show(lines...)
		if !slices.EqualFunc(lines, list, sameLine) {
			t.Fatalf("Show makes %v of %v", lines, list)
		}
		wantWhole(t, "Show", lines)
		for _, of := range [][]int{{50, 50}, {}, {2, 50}, {50, 0, 7}, slices.Repeat([]int{60}, 9)} {
			sizes := append(slices.Clone(of), 81, 82, 83)[:len(of)]
			script.Run(sizes, lines...)
			if got := sizes[:len(of)+3]; !slices.Equal(got, append(slices.Clone(of), 81, 82, 83)) {
				t.Fatalf("Run makes %v of the sizes %v", got, of)
			}
			if !slices.EqualFunc(lines, list, sameLine) {
				t.Fatalf("Run makes %v of %v", lines, list)
			}
			wantWhole(t, "Run", lines)
		}
	}
}

// TestP21_4NotKept writes over what was handed in: nothing that was told changes, and nothing that is told later.
func TestP21_4NotKept(t *testing.T) {
	list := played(t)
	text, err := script.Show(list...)
	if err != nil {
		t.Fatalf("Show: %v", err)
	}
	was := strings.Clone(text)
	want := runLines(t, []int{50, 50}, list)
	for range 3 {
		lines, sizes := roomy(list), append(make([]int, 0, 9), 50, 50)
		shown, _ := script.Show(lines...)
		answers, err := script.Run(sizes, lines...)
		spoil(lines)
		overwrite(sizes, spare)
		if err != nil || shown != was || !slices.Equal(answers, want) {
			t.Fatalf("%q, %v, %v: not %q, %v", shown, answers, err, was, want)
		}
	}
	wantShow(t, was, list...)
}

// TestP21_4Told writes over what was told: nothing else that was told changes, and nothing that is told later.
func TestP21_4Told(t *testing.T) {
	want := played(t)
	text, err := script.Show(want...)
	if err != nil {
		t.Fatalf("Show: %v", err)
	}
	was := strings.Clone(text)
	answered := runLines(t, []int{50, 50}, want)
	first, _, _ := script.Parse(text)
	answers, _ := script.Run([]int{50, 50}, first...)
	for range 3 {
		lines, _, _ := script.Parse(text)
		others, _ := script.Run([]int{50, 50}, lines...)
		spoil(lines)
		overwrite(others, "spoilt")
		if text != was || !slices.EqualFunc(first, want, sameLine) || !slices.Equal(answers, answered) {
			t.Fatalf("what is written over what one call told reaches what another one told: %q, %v, %v", text, first, answers)
		}
		wantParse(t, text, want...)
		runLines(t, []int{50, 50}, want)
	}
}

// TestP21_4NoTwo writes over the numbers of each line of one answer, and demands that the other lines have theirs still.
func TestP21_4NoTwo(t *testing.T) {
	want := played(t)
	text, err := script.Show(want...)
	if err != nil {
		t.Fatalf("Show: %v", err)
	}
	lines, _, err := script.Parse(text)
	if err != nil {
		t.Fatalf("Parse: %v", err)
	}
	for at := range lines {
		overwrite(lines[at].Numbers, spare)
		if !slices.EqualFunc(lines[at+1:], want[at+1:], sameLine) {
			t.Fatalf("the line %d shares numbers with one behind it: %v", at, lines)
		}
		lines[at].Numbers = append(lines[at].Numbers[:0], want[at].Numbers...)
		if !slices.EqualFunc(lines, want, sameLine) {
			t.Fatalf("the line %d shares numbers with one ahead of it: %v", at, lines)
		}
	}
}
