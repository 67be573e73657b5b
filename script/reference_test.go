package script_test

import (
	"math/rand"
	"regexp"
	"slices"
	"strconv"
	"strings"
	"testing"

	"portage/script"
)

// pattern is what a text begins with, if it begins with a line: a word, and its numbers.
var pattern = regexp.MustCompile(`\A([a-z]+)((?: (?:0|[1-9][0-9]{0,9}))*)\n`)

// reference tells the lines of a text by the pattern and the table of words, or the place of the first that is none.
func reference(text string) (lines []script.Line, at int, ok bool) {
	for at < len(text) {
		found := pattern.FindStringSubmatch(text[at:])
		if found == nil || len(lines) == 1000 {
			return nil, at, false
		}
		row := slices.IndexFunc(words, func(w word) bool { return w.name == found[1] })
		l := line(found[1])
		for _, one := range strings.Fields(found[2]) {
			n, err := strconv.ParseInt(one, 10, 64)
			if err != nil || n > greatest {
				return nil, at, false
			}
			l.Numbers = append(l.Numbers, int(n))
		}
		if row < 0 || len(l.Numbers) < words[row].least || len(l.Numbers) > words[row].most {
			return nil, at, false
		}
		lines = append(lines, l)
		at += len(found[0])
	}
	return lines, at, true
}

// wantReference demands that Parse tells of a text what the reference tells; and if that are lines, that Show tells the text.
func wantReference(t *testing.T, text string) (isScript bool) {
	t.Helper()
	want, at, ok := reference(text)
	if !ok {
		wantNone(t, text, at)
		return false
	}
	wantParse(t, text, want...)
	wantShow(t, text, want...)
	return true
}

// someLine is any line.
func someLine(r *rand.Rand) script.Line {
	w := words[r.Intn(len(words))]
	l := line(w.name)
	for range w.least + r.Intn(min(w.most-w.least, 4)+1) {
		l.Numbers = append(l.Numbers, r.Intn(1<<r.Intn(31)))
	}
	return l
}

// TestP21_1Reference holds Parse against the reference: of scripts that are right, of such with a few bytes changed, and of any bytes that lines are made of.
func TestP21_1Reference(t *testing.T) {
	r := rand.New(rand.NewSource(211))
	bytes := "\n\n  0123456789-+abcdefmovecrashflush\t\r\x00\xff"
	right, wrong := 0, 0
	count := func(text string) {
		if wantReference(t, text) {
			right++
		} else {
			wrong++
		}
	}
	for range 20000 {
		text := ""
		for range r.Intn(8) {
			text += textOf(someLine(r))
		}
		count(text)
		changed := []byte(text)
		for range 1 + r.Intn(2) {
			if len(changed) == 0 {
				break
			}
			at := r.Intn(len(changed))
			switch r.Intn(3) {
			case 0:
				changed[at] = bytes[r.Intn(len(bytes))]
			case 1:
				changed = slices.Delete(changed, at, at+1)
			case 2:
				changed = slices.Insert(changed, at, bytes[r.Intn(len(bytes))])
			}
		}
		count(string(changed))
		var soup strings.Builder
		for range r.Intn(12) {
			soup.WriteByte(bytes[r.Intn(len(bytes))])
		}
		count(soup.String())
		var parts strings.Builder
		for range r.Intn(6) {
			parts.WriteString([]string{"move", "crash", "delete", " ", "\n", "\n", "0", "7", "1073741824", "1073741825", " 1", "\n", "flush\n"}[r.Intn(13)])
		}
		count(parts.String())
	}
	if right < 20000 || wrong < 20000 {
		t.Fatalf("%d texts were scripts, and %d were none: too few to say anything", right, wrong)
	}
}
