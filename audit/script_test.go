package audit_test

import (
	"bytes"
	"encoding/hex"
	"fmt"
	"maps"
	"slices"
	"strconv"
	"strings"
	"testing"

	"portage/api"
	"portage/fault"
	"portage/queue"
	"portage/script"
)

// kindOf is the kind of request that a line of volumes or members is, 0 of others.
func kindOf(word string) int {
	return slices.Index([]string{"", "create", "snap", "delete", "resize", "read", "write", "discard", "flush", "add", "grow", "evacuate", "cancel", "move"}, word)
}

// requestOf is the request that a line is.
func requestOf(l script.Line) queue.Request {
	r := queue.Request{Kind: kindOf(l.Word)}
	n := append(slices.Clone(l.Numbers), 0, 0, 0, 0)
	switch r.Id = n[0]; r.Kind {
	case create, snapshot, resize:
		r.N = n[1]
	case read, discard:
		r.Block, r.N = n[1], n[2]
	case write:
		r.Block, r.Data = n[1], bytes.Repeat([]byte{byte(n[2])}, api.Sector*min(n[3], 9))
	}
	return r
}

// textOf is what is to be answered to a line of volumes, by what layer 14's volumes answer.
func textOf(data []byte, err error) string {
	if err != nil {
		code, _ := fault.CodeOf(err)
		return "error " + strconv.Itoa(int(code))
	}
	if len(data) == 0 {
		return "ok"
	}
	var firsts []byte
	for at := 0; at < len(data); at += api.Sector {
		firsts = append(firsts, data[at])
	}
	return "ok " + hex.EncodeToString(firsts)
}

// The volumes of scripts: so many Ids, each of some runs of eight blocks.
const (
	maxIds  = 4
	maxRuns = 3
)

// asks are lines that tell all that can be told of the volumes.
func asks() []script.Line {
	var lines []script.Line
	for id := 1; id <= maxIds; id++ {
		for run := range maxRuns {
			lines = append(lines, script.Line{Word: "read", Numbers: []int{id, run * api.MaxRun, api.MaxRun}})
		}
	}
	return lines
}

// seen are the volumes that answers to asks tell.
func seen(answers []string) (model, error) {
	m := model{}
	for i, answer := range answers {
		id, run := 1+i/maxRuns, i%maxRuns
		data, isOk := strings.CutPrefix(answer, "ok ")
		firsts, err := hex.DecodeString(data)
		switch v, has := m[id]; {
		case !isOk && (answer == "error 90") == has:
			return nil, fmt.Errorf("the volume %d: %s", id, answer)
		case !isOk && answer == "error 90" && run == 0, !isOk && answer == "error 90" && !has, !isOk && answer == "error 92" && has:
			continue
		case !isOk || err != nil || len(firsts) != api.MaxRun || !has && run > 0 || has && v.size != run*api.MaxRun:
			return nil, fmt.Errorf("the volume %d: %s", id, answer)
		case !has:
			v.blocks = map[int]string{}
			fallthrough
		default:
			v.size = (run + 1) * api.MaxRun
			for i, c := range firsts {
				v.blocks[run*api.MaxRun+i] = strings.Repeat(string([]byte{c}), api.Sector)
			}
			m[id] = v
		}
	}
	return m, nil
}

// looksLike tells whether all that can be told of volumes is the same; each block may also have something that was written since.
func (m model) looksLike(want model, since map[place][]string) bool {
	if !slices.Equal(slices.Sorted(maps.Keys(m)), slices.Sorted(maps.Keys(want))) {
		return false
	}
	for id, v := range m {
		if v.size != want[id].size {
			return false
		}
		for block := range v.size {
			if data := v.at(block); data != want[id].at(block) && !slices.Contains(since[place{id, block}], data) {
				return false
			}
		}
	}
	return true
}

// play is a script with its answers, and what the volumes must be as it goes on.
type play struct {
	*testing.T
	now, durable model
	since        map[place][]string
	// behind is what the volumes would be behind the call in which the power went, if that commits.
	behind         model
	isArmed, isOff bool
}

// line holds the answer to a line against what must be answered.
func (p *play) line(l script.Line, answer string) {
	p.Helper()
	kind := kindOf(l.Word)
	switch {
	case l.Word == "arm":
		p.isArmed = true
	case kind < create:
		// What happens to the bank is no matter for volumes.
	case p.isOff:
		if answer != "error 22" {
			p.Fatalf("%v: %s, and the power is off", l, answer)
		}
	default:
		p.call(l, kind, answer)
	}
}

// call holds the answer to a call against what must be answered, with the power on ahead of it.
func (p *play) call(l script.Line, kind int, answer string) {
	p.Helper()
	next := p.now.clone()
	data, err := next.do(requestOf(l))
	for id, v := range next {
		for block := range v.blocks {
			if at := (place{id, block}); kind == write && err == nil && v.at(block) != p.now[id].at(block) {
				p.since[at] = append(p.since[at], v.at(block))
			}
		}
	}
	isOk := strings.HasPrefix(answer, "ok")
	switch {
	case answer == "error 22" && p.isArmed && err == nil:
		p.isOff = true
		if p.behind = nil; kind != write && kind != discard {
			p.behind = next
		}
	case kind <= flush && answer != textOf(data, err):
		p.Fatalf("%v: %s, not %s", l, answer, textOf(data, err))
	case kind > flush && !isOk && answer != "error 120" && answer != "error 30" && answer != "error 100" && answer != "error 23" && answer != "error 20" && answer != "error 24":
		p.Fatalf("%v: %s", l, answer)
	case isOk:
		p.now = next
		if kind != read && kind != write && kind != discard && (kind != move || answer >= "ok 4") {
			p.settle()
		}
	}
}

// settle keeps in mind what is durable.
func (p *play) settle() { p.durable, p.since = p.now.clone(), map[place][]string{} }

// crash holds the volumes that are there behind a crash against those that were durable, or those behind the call in which the power went.
func (p *play) crash(answer string, told []string) {
	p.Helper()
	m, err := seen(told)
	if answer != "ok" || err != nil {
		p.Fatalf("crash: %s, %v", answer, err)
	}
	if !m.looksLike(p.durable, p.since) && (p.behind == nil || !m.looksLike(p.behind, nil)) {
		p.Fatalf("crash: %v, not %v, nor %v", told, p.durable.list(), p.behind.list())
	}
	p.now, p.behind, p.isArmed, p.isOff = m, nil, false, false
	p.settle()
}

// held plays a script, and holds its answers against layer 14's volumes. Behind each crash come asks.
func held(t *testing.T, sizes []int, lines []script.Line) []string {
	t.Helper()
	answers, err := script.Run(sizes, lines...)
	if err != nil || len(answers) != len(lines) {
		t.Fatalf("Run: %d answers, %v", len(answers), err)
	}
	p := &play{T: t, now: model{}}
	p.settle()
	count := len(asks())
	for i := 0; i < len(lines); i++ {
		if lines[i].Word == "crash" {
			p.crash(answers[i], answers[i+1:i+1+count])
			i += count
		} else {
			p.line(lines[i], answers[i])
		}
	}
	return answers
}

// some is a line that leaps about. Sizes are whole runs.
func some(next *numbers) script.Line {
	id, from, at := 1+next.below(maxIds), 1+next.below(maxIds), next.below(maxRuns*api.MaxRun+1)
	size := api.MaxRun * (1 + next.below(maxRuns))
	line := func(word string, numbers ...int) script.Line { return script.Line{Word: word, Numbers: numbers} }
	switch kind := next.below(48); {
	case kind < 3:
		return line("create", id, size)
	case kind < 6:
		return line("snap", id, from)
	case kind < 7:
		return line("delete", id)
	case kind < 8:
		return line("resize", id, size)
	case kind < 12:
		return line("discard", id, at, 1+next.below(9))
	case kind < 14:
		return line("flush")
	case kind < 20:
		return line("read", id, at, next.below(10))
	case kind < 32:
		return line("move")
	case kind < 34:
		return line("evacuate", next.below(5))
	case kind < 35:
		return line("cancel")
	}
	return line("write", id, at, next.below(256), next.below(5))
}

// devices are lines by which a device comes, or grows.
func devices(next *numbers, count *int) []script.Line {
	line := func(word string, numbers ...int) script.Line { return script.Line{Word: word, Numbers: numbers} }
	if next.below(2) == 0 {
		device := next.below(*count)
		return []script.Line{line("extend", device, 1+next.below(9)), line("grow", device)}
	}
	*count++
	return []script.Line{line("device", 150+next.below(50)), line("add", *count-1)}
}

// TestP3Scripts plays scripts without crashes: each line of volumes is answered as layer 14's volumes answer it, and just so if all that has to do with leaving devices is erased.
func TestP3Scripts(t *testing.T) {
	left := 0
	for seed := range 60 {
		next := numbers(seed)
		var lines, others []script.Line
		count := 3
		for len(lines) < 700 {
			list := []script.Line{some(&next)}
			if next.below(60) == 0 {
				list = devices(&next, &count)
			}
			lines = append(lines, list...)
		}
		lines = append(lines, asks()...)
		answers := held(t, []int{250, 240, 260}, lines)
		isLeaving := func(l script.Line) bool { return kindOf(l.Word) >= evacuate }
		var want []string
		for i, l := range lines {
			if !isLeaving(l) {
				others = append(others, l)
				want = append(want, answers[i])
			} else if answers[i] == "ok 6" {
				left++
			}
		}
		for i, answer := range held(t, []int{250, 240, 260}, others) {
			if kind := kindOf(others[i].Word); kind >= create && kind <= flush && answer != want[i] {
				t.Fatalf("%v: %s, and with leaving devices %s", others[i], answer, want[i])
			}
		}
	}
	if left < 30 {
		t.Fatalf("%d devices were left", left)
	}
}

// TestP4Scripts plays scripts in which the power goes at any write: behind each crash the volumes are those that were durable, or those behind the call in which it went.
func TestP4Scripts(t *testing.T) {
	left, offs := 0, 0
	for seed := range 80 {
		next := numbers(seed)
		var lines []script.Line
		count := 3
		for len(lines) < 900 {
			for range next.below(30) {
				lines = append(lines, some(&next))
			}
			list := []script.Line{some(&next)}
			if next.below(12) == 0 && count < api.MaxDevices {
				list = devices(&next, &count)
			}
			if next.below(2) == 0 {
				lines = append(lines, script.Line{Word: "arm", Numbers: []int{next.below(30)}})
			}
			lines = append(lines, list...)
			for range next.below(4) {
				lines = append(lines, some(&next))
			}
			crash := script.Line{Word: "crash"}
			for range next.below(40) {
				crash.Numbers = append(crash.Numbers, next.below(4))
			}
			lines = append(append(lines, crash), asks()...)
		}
		for _, answer := range held(t, []int{250, 240, 260}, lines) {
			if answer == "ok 6" {
				left++
			}
			if answer == "error 22" {
				offs++
			}
		}
	}
	if left < 10 || offs < 100 {
		t.Fatalf("%d devices were left, %d calls had no power", left, offs)
	}
}

// TestP8Scripts plays scripts of any lines, with any numbers: each is answered.
func TestP8Scripts(t *testing.T) {
	words := map[string]int{"create": 2, "snap": 2, "delete": 1, "resize": 2, "read": 3, "write": 4, "discard": 3, "flush": 0, "device": 1, "extend": 2, "add": 1, "grow": 1, "evacuate": 1, "cancel": 0, "move": 0, "arm": 1, "crash": 3, "bad": 3, "fill": 2, "detach": 1}
	names := slices.Sorted(maps.Keys(words))
	for seed := range 150 {
		next := numbers(seed)
		var lines []script.Line
		for range 150 {
			l := script.Line{Word: names[next.below(len(names))]}
			if rare := l.Word == "fill" || l.Word == "detach" || l.Word == "bad"; rare && next.below(4) > 0 {
				l.Word = "write"
			}
			for range words[l.Word] {
				l.Numbers = append(l.Numbers, next.below([]int{3, 3, 9, 60, 1<<30 + 1}[next.below(5)]))
			}
			lines = append(lines, l)
		}
		answers, err := script.Run([]int{40, 50}, lines...)
		if err != nil || len(answers) != len(lines) {
			t.Fatalf("Run: %d answers, %v", len(answers), err)
		}
		for i, answer := range answers {
			if !strings.HasPrefix(answer, "ok") && !strings.HasPrefix(answer, "error ") {
				t.Fatalf("%v: %q", lines[i], answer)
			}
		}
	}
}
