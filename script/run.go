package script

import (
	"bytes"
	"strconv"
	"strings"

	"portage/api"
	"portage/bank"
	"portage/fault"
	"portage/pool"
)

// hexDigits are by what they stand for.
const hexDigits = "0123456789abcdef"

// play is a bank and the pool on it, to which the lines happen.
type play struct {
	bank *bank.Bank
	pool *pool.Pool
}

// Run tells what is answered to each line, of a new pool over devices of these sizes.
func Run(sizes []int, lines ...Line) ([]string, error) {
	if !areRight(lines) {
		return nil, api.ErrForm
	}
	p, err := begin(sizes)
	if err != nil {
		return nil, err
	}
	var answers []string
	for _, l := range lines {
		answers = append(answers, answer(p.do(l.Word, l.Numbers)))
	}
	return answers, nil
}

// begin tells a bank with devices of these sizes, and a new pool of them.
func begin(sizes []int) (*play, error) {
	b := bank.New()
	for _, size := range sizes {
		if _, err := b.Add(size); err != nil {
			return nil, err
		}
	}
	p, err := pool.Format(b)
	if err != nil {
		return nil, err
	}
	return &play{bank: b, pool: p}, nil
}

// do does what a line says, whose numbers are as many as its word has. It tells what is answered behind the ok.
func (p *play) do(word string, n []int) (told string, err error) {
	switch word {
	case "create":
		err = p.pool.Create(n[0], n[1])
	case "snap":
		err = p.pool.Snapshot(n[0], n[1])
	case "delete":
		err = p.pool.Delete(n[0])
	case "resize":
		err = p.pool.Resize(n[0], n[1])
	case "read":
		return p.read(n[0], n[1], n[2])
	case "write":
		err = p.pool.Write(n[0], n[1], blocks(n[2], n[3]))
	case "discard":
		err = p.pool.Discard(n[0], n[1], n[2])
	case "flush":
		err = p.pool.Flush()
	case "device":
		_, err = p.bank.Add(n[0])
	case "extend":
		err = p.bank.Grow(n[0], n[1])
	case "add":
		err = p.pool.Add(n[0])
	case "grow":
		err = p.pool.Grow(n[0])
	case "evacuate":
		err = p.pool.Evacuate(n[0])
	case "cancel":
		err = p.pool.Cancel()
	case "move":
		return p.move()
	case "arm":
		p.bank.Arm(n[0])
	case "crash":
		err = p.crash(n)
	case "bad":
		err = p.bank.Bad(n[0], n[1], n[2] != 0)
	case "fill":
		err = p.bank.Fill(n[0], []byte{byte(n[1])})
	case "detach":
		err = p.bank.Detach(n[0])
	}
	return "", err
}

// read tells the first byte of each of some blocks.
func (p *play) read(id, block, count int) (string, error) {
	data, err := p.pool.Read(id, block, count)
	if err != nil {
		return "", err
	}
	var told strings.Builder
	for at := 0; at < len(data); at += api.Sector {
		told.WriteByte(hexDigits[data[at]>>4])
		told.WriteByte(hexDigits[data[at]&15])
	}
	return told.String(), nil
}

// move tells what one step of leaving a device did.
func (p *play) move() (string, error) {
	did, err := p.pool.Move()
	if err != nil {
		return "", err
	}
	return strconv.Itoa(did), nil
}

// crash lets the bank crash. The pool that there was stays, if there is no other one.
func (p *play) crash(picks []int) error {
	p.bank.Crash(picks...)
	next, err := pool.Open(p.bank)
	if err != nil {
		return err
	}
	p.pool = next
	return nil
}

// blocks tells so many blocks of one number. One more than a Write takes is enough for it to be refused.
func blocks(fill, count int) []byte {
	return bytes.Repeat([]byte{byte(fill)}, min(count, api.MaxRun+1)*api.Sector)
}

// answer tells in words what a line was answered.
func answer(told string, err error) string {
	if err != nil {
		code, _ := fault.CodeOf(err)
		return "error " + strconv.Itoa(int(code))
	}
	if told != "" {
		return "ok " + told
	}
	return "ok"
}
