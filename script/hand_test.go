package script_test

import (
	"encoding/hex"
	"slices"
	"strconv"
	"testing"

	"portage/api"
	"portage/bank"
	"portage/fault"
	"portage/pool"
	"portage/script"
)

// hand is a bank and a pool on which the calls of the chapter's table are made one by one.
type hand struct {
	*testing.T
	b *bank.Bank
	p *pool.Pool
}

// newHand has a new pool over devices of these sizes.
func newHand(t *testing.T, sizes []int) *hand {
	t.Helper()
	b := bank.New()
	for _, size := range sizes {
		if _, err := b.Add(size); err != nil {
			t.Fatalf("Add: %v", err)
		}
	}
	p, err := pool.Format(b)
	if err != nil {
		t.Fatalf("Format: %v", err)
	}
	return &hand{T: t, b: b, p: p}
}

// do makes the call of a line, and tells what is to be answered.
func (h *hand) do(l script.Line) string {
	h.Helper()
	told, err := "", error(nil)
	if l.Word == "crash" {
		err = h.crash(l.Numbers)
	} else {
		told, err = table(h.b, h.p)[l.Word](l.Numbers)
	}
	if err == nil {
		return "ok" + told
	}
	code, ok := fault.CodeOf(err)
	if !ok {
		h.Fatalf("%v: %v has no code", l, err)
	}
	return "error " + strconv.Itoa(int(code))
}

// crash crashes the bank, and goes on with the pool that is opened, if one is.
func (h *hand) crash(picks []int) error {
	h.b.Crash(picks...)
	opened, err := pool.Open(h.b)
	if err == nil {
		h.p = opened
	}
	return err
}

// byHand tells what is to be answered to lines.
func byHand(t *testing.T, sizes []int, lines []script.Line) []string {
	t.Helper()
	h := newHand(t, sizes)
	var list []string
	for _, l := range lines {
		list = append(list, h.do(l))
	}
	return list
}

// table are the calls of all words but crash.
func table(b *bank.Bank, p *pool.Pool) map[string]func(n []int) (string, error) {
	quiet := func(call func(n []int) error) func(n []int) (string, error) {
		return func(n []int) (string, error) { return "", call(n) }
	}
	return map[string]func(n []int) (string, error){
		"create":   quiet(func(n []int) error { return p.Create(n[0], n[1]) }),
		"snap":     quiet(func(n []int) error { return p.Snapshot(n[0], n[1]) }),
		"delete":   quiet(func(n []int) error { return p.Delete(n[0]) }),
		"resize":   quiet(func(n []int) error { return p.Resize(n[0], n[1]) }),
		"write":    quiet(func(n []int) error { return p.Write(n[0], n[1], filled(n[2]%256, min(n[3], 9))) }),
		"discard":  quiet(func(n []int) error { return p.Discard(n[0], n[1], n[2]) }),
		"flush":    quiet(func([]int) error { return p.Flush() }),
		"device":   quiet(func(n []int) error { _, err := b.Add(n[0]); return err }),
		"extend":   quiet(func(n []int) error { return b.Grow(n[0], n[1]) }),
		"add":      quiet(func(n []int) error { return p.Add(n[0]) }),
		"grow":     quiet(func(n []int) error { return p.Grow(n[0]) }),
		"evacuate": quiet(func(n []int) error { return p.Evacuate(n[0]) }),
		"cancel":   quiet(func([]int) error { return p.Cancel() }),
		"arm":      quiet(func(n []int) error { b.Arm(n[0]); return nil }),
		"bad":      quiet(func(n []int) error { return b.Bad(n[0], n[1], n[2] > 0) }),
		"fill":     quiet(func(n []int) error { return b.Fill(n[0], filled(n[1]%256, 1)) }),
		"detach":   quiet(func(n []int) error { return b.Detach(n[0]) }),
		"read": func(n []int) (string, error) {
			data, err := p.Read(n[0], n[1], n[2])
			var firsts []byte
			for block := range slices.Chunk(data, api.Sector) {
				firsts = append(firsts, block[0])
			}
			return " " + hex.EncodeToString(firsts), err
		},
		"move": func([]int) (string, error) {
			did, err := p.Move()
			return " " + strconv.Itoa(did), err
		},
	}
}

// filled are so many blocks of a number.
func filled(number, count int) []byte {
	return slices.Repeat([]byte{byte(number)}, count*api.Sector)
}
