package node_test

import (
	"bytes"
	"encoding/binary"
	"errors"
	"hash/crc32"
	"math"
	"slices"
	"testing"

	"portage/api"
	"portage/fault"
	"portage/node"
)

// The ends that the chapter names.
const (
	levels      = 20
	most        = 7
	greatestKey = 1 << 40
	greatestVal = 1 << 61
)

// Numbers that are no level, no key and no value of a right node.
var (
	noLevels = []int{-1, -2, math.MinInt, math.MinInt + 1, levels + 1, levels + 2, 255, 256, 257, math.MaxInt32, math.MaxInt}
	noKeys   = []int{-1, -2, math.MinInt, math.MinInt + 1, greatestKey + 1, greatestKey + 2, 1 << 41, 1 << 61, 1<<62 - 1, 1 << 62, math.MaxInt - 1, math.MaxInt}
	noVals   = []int{0, -1, -2, math.MinInt, math.MinInt + 1, greatestVal + 1, greatestVal + 2, 1<<62 - 1, 1 << 62, math.MaxInt - 1, math.MaxInt}
)

// pair is a key and its value.
func pair(key, val int) node.Pair { return node.Pair{Key: key, Val: val} }

// with is a node of these pairs.
func with(level int, pairs ...node.Pair) node.Node {
	n := node.Node{Level: level}
	for _, p := range pairs {
		n.Keys = append(n.Keys, p.Key)
		n.Vals = append(n.Vals, p.Val)
	}
	return n
}

// valued is a pair whose value tells which key it is of.
func valued(key int) node.Pair { return pair(key, 100+key) }

// keyed is a node of these keys, each with a value that tells which one it is of.
func keyed(level int, keys ...int) node.Node {
	n := node.Node{Level: level}
	for _, key := range keys {
		n.Keys = append(n.Keys, key)
		n.Vals = append(n.Vals, valued(key).Val)
	}
	return n
}

// tens is a node with the keys 10, 20, .., so many of them.
func tens(level, count int) node.Node {
	n := node.Node{Level: level}
	for i := range count {
		n.Keys = append(n.Keys, 10*(i+1))
		n.Vals = append(n.Vals, valued(10*(i+1)).Val)
	}
	return n
}

// copied is a node with lists of its own.
func copied(n node.Node) node.Node {
	return node.Node{Level: n.Level, Keys: slices.Clone(n.Keys), Vals: slices.Clone(n.Vals)}
}

// right are nodes that are right, each end of each number among them.
func right() []node.Node {
	all := []node.Node{
		with(3, pair(0x0102030405, 0x1112131415161718)),
		with(0, pair(0, 1), pair(greatestKey, greatestVal)),
		with(levels, pair(0, greatestVal), pair(greatestKey, 1)),
		with(7, pair(0, 1), pair(1, greatestVal), pair(2, 1), pair(255, 256), pair(256, 255), pair(greatestKey-1, greatestVal-1), pair(greatestKey, greatestVal)),
		with(1, pair(5, 9), pair(6, 9), pair(7, 3)), // values need not rise, and may be there twice
	}
	for _, level := range []int{0, 1, levels - 1, levels} {
		for count := 1; count <= most; count++ {
			all = append(all, tens(level, count))
		}
		for _, key := range []int{0, 1, greatestKey - 1, greatestKey} {
			for _, val := range []int{1, 2, greatestVal - 1, greatestVal} {
				all = append(all, with(level, pair(key, val)))
			}
		}
	}
	return all
}

// notRight are nodes that are not right, each for one reason alone.
func notRight() []node.Node {
	all := []node.Node{
		{}, {Keys: []int{}, Vals: []int{}}, {Level: levels}, {Level: 3, Keys: nil, Vals: []int{}}, // no keys
		tens(0, most+1), tens(levels, most+1), tens(0, most+2), tens(0, 256), tens(0, 257), tens(0, 1000),
		{Keys: []int{1}}, {Keys: []int{1}, Vals: []int{}}, {Keys: []int{1}, Vals: []int{1, 1}},
		{Vals: []int{1}}, {Keys: []int{1, 2, 3}, Vals: []int{1, 2}}, {Keys: []int{1, 2, 3}, Vals: []int{1, 2, 3, 4}},
		{Keys: tens(0, most).Keys, Vals: tens(0, most-1).Vals}, {Keys: tens(0, most).Keys, Vals: tens(0, most+1).Vals},
		{Keys: tens(0, most+1).Keys, Vals: tens(0, most).Vals},
	}
	for _, level := range noLevels {
		all = append(all, tens(level, 1), tens(level, most))
	}
	for _, count := range []int{1, 2, most} {
		for i := range count {
			all = append(all, spoiled(count, i)...)
		}
	}
	return all
}

// spoiled are nodes of so many keys, of which the one at this place, or its value, is not right.
func spoiled(count, i int) []node.Node {
	var all []node.Node
	for _, key := range noKeys {
		n := tens(4, count)
		n.Keys[i] = key
		all = append(all, n)
	}
	for _, val := range noVals {
		n := tens(4, count)
		n.Vals[i] = val
		all = append(all, n)
	}
	for at, key := range tens(4, i).Keys {
		for _, falls := range []int{key, key - 1} {
			n := tens(4, count)
			n.Keys[i] = falls
			all = append(all, n)
		}
		if at > 0 {
			continue
		}
		n := tens(4, count)
		n.Keys[0], n.Keys[i] = n.Keys[i], n.Keys[0]
		all = append(all, n)
	}
	return all
}

// framed is a sector with a payload as layer 2's chapter puts it, with a length that may be a lie.
func framed(kind byte, length int, payload []byte) []byte {
	sector := make([]byte, api.Sector)
	sector[0], sector[1] = kind, byte(length)
	copy(sector[2:api.Sector-4], payload)
	return sealed(sector)
}

// sealed is a sector with the sum that belongs to what stands in it.
func sealed(sector []byte) []byte {
	binary.BigEndian.PutUint32(sector[api.Sector-4:], crc32.ChecksumIEEE(sector[:api.Sector-4]))
	return sector
}

// payload is what the chapter says stands in the frame of a node with this level, this count and these numbers, right or not.
func payload(level, count byte, numbers ...uint64) []byte {
	b := []byte{level, count}
	for _, n := range numbers {
		b = binary.BigEndian.AppendUint64(b, n)
	}
	return b
}

// standing is the sector with such a payload.
func standing(level, count byte, numbers ...uint64) []byte {
	p := payload(level, count, numbers...)
	return framed(2, len(p), p)
}

// numbersOf are a node's keys and values as they stand in its sector.
func numbersOf(n node.Node) []uint64 {
	var numbers []uint64
	for i, key := range n.Keys {
		numbers = append(numbers, uint64(key), uint64(n.Vals[i]))
	}
	return numbers
}

// encoded is the sector that the chapter says a node stands in. It must have as many values as keys, and no more than fit.
func encoded(n node.Node) []byte {
	return standing(byte(n.Level), byte(len(n.Keys)), numbersOf(n)...)
}

// equal tells whether two nodes have the same in them.
func equal(n, o node.Node) bool {
	return n.Level == o.Level && slices.Equal(n.Keys, o.Keys) && slices.Equal(n.Vals, o.Vals)
}

// isNothing tells whether a node has nothing set.
func isNothing(n node.Node) bool { return n.Level == 0 && len(n.Keys) == 0 && len(n.Vals) == 0 }

// wantCode demands that err is this bare code.
func wantCode(t *testing.T, what string, err error, code api.Code) {
	t.Helper()
	var f *fault.Fault
	if err != error(code) || !errors.Is(err, code) || errors.As(err, &f) {
		t.Errorf("%s: %v, not %v", what, err, code)
	}
}

// must demands that a call has no error.
func must(t *testing.T, what string, err error) {
	t.Helper()
	if err != nil {
		t.Fatalf("%s: %v", what, err)
	}
}

// wantNoParse demands that no node stands in a sector.
func wantNoParse(t *testing.T, what string, sector []byte) {
	t.Helper()
	n, err := node.Parse(sector)
	wantCode(t, "Parse of "+what, err, api.ErrNode)
	if !isNothing(n) {
		t.Errorf("Parse of %s tells %v beside an error", what, n)
	}
	if t.Failed() {
		t.Fatalf("Parse of %x", sector)
	}
}

// wantNodes demands which nodes a call tells.
func wantNodes(t *testing.T, what string, got []node.Node, err error, want ...node.Node) {
	t.Helper()
	if err != nil || !slices.EqualFunc(got, want, equal) {
		t.Errorf("%s: %v, %v, not %v", what, got, err, want)
	}
}

// wantNoNodes demands that a call tells this error, and nothing beside it.
func wantNoNodes(t *testing.T, what string, got []node.Node, err error, code api.Code) {
	t.Helper()
	wantCode(t, what, err, code)
	if len(got) != 0 {
		t.Errorf("%s tells %v beside an error", what, got)
	}
}

// wantNoDrop demands that Drop tells this error, and nothing beside it.
func wantNoDrop(t *testing.T, n node.Node, key int, code api.Code) {
	t.Helper()
	got, err := n.Drop(key)
	wantCode(t, "Drop", err, code)
	if !isNothing(got) {
		t.Errorf("Drop(%d) of %v tells %v beside an error", key, n, got)
	}
}

func TestP10_1Right(t *testing.T) {
	for _, n := range right() {
		must(t, "Check", n.Check())
		b, err := n.Bytes()
		if err != nil || !bytes.Equal(b, encoded(n)) {
			t.Errorf("Bytes of %v: %x, %v, not %x", n, b, err, encoded(n))
		}
		o, err := node.Parse(encoded(n))
		if err != nil || !equal(o, n) {
			t.Errorf("Parse of the sector of %v: %v, %v", n, o, err)
		}
		if !n.Same(o) || !o.Same(n) {
			t.Errorf("%v is not Same as itself", n)
		}
	}
}

// TestP10_1Sector holds a sector against its bytes, written out one by one.
func TestP10_1Sector(t *testing.T) {
	want := sealed(append([]byte{
		2, 34, 20, 2,
		0, 0, 0, 0, 0, 0, 1, 2, 0x11, 0x12, 0x13, 0x14, 0x15, 0x16, 0x17, 0x18,
		0, 0, 1, 0, 0, 0, 0, 0, 0, 0, 0, 0, 0, 0, 0, 9,
	}, make([]byte, api.Sector-36)...))
	n := with(20, pair(258, 0x1112131415161718), pair(greatestKey, 9))
	if b, err := n.Bytes(); err != nil || !bytes.Equal(b, want) {
		t.Errorf("Bytes: %x, %v, not %x", b, err, want)
	}
	if o, err := node.Parse(want); err != nil || !equal(o, n) {
		t.Errorf("Parse: %v, %v", o, err)
	}
}

func TestP10_1NotRight(t *testing.T) {
	for _, n := range notRight() {
		wantCode(t, "Check", n.Check(), api.ErrNode)
		b, err := n.Bytes()
		wantCode(t, "Bytes", err, api.ErrNode)
		if len(b) != 0 {
			t.Errorf("Bytes tells %x beside an error", b)
		}
		if t.Failed() {
			t.Fatalf("of %v", n)
		}
	}
}

// TestP10_1ParseNotRight lays nodes that are not right in sectors, where they fit, each for one reason alone.
func TestP10_1ParseNotRight(t *testing.T) {
	for _, n := range notRight() {
		if n.Level < 0 || n.Level > 255 || len(n.Keys) != len(n.Vals) || len(n.Keys) > most {
			continue
		}
		wantNoParse(t, "a node that is not right", encoded(n))
	}
	for level := levels + 1; level < 256; level++ {
		wantNoParse(t, "a level above 20", standing(byte(level), 1, 5, 6))
	}
	for _, great := range []uint64{1 << 62, 1<<63 - 1, 1 << 63, 1<<63 + 5, math.MaxUint64 - 1, math.MaxUint64} {
		wantNoParse(t, "a key that is no Long", standing(0, 1, great, 6))
		wantNoParse(t, "a value that is no Long", standing(0, 1, 5, great))
		wantNoParse(t, "a last key that is no Long", standing(0, 2, 5, 6, great, 6))
		wantNoParse(t, "a last value that is no Long", standing(0, 2, 5, 6, 7, great))
	}
}

// TestP10_1ParseCounts lets the count of keys say something else than what stands there.
func TestP10_1ParseCounts(t *testing.T) {
	for there := range most + 1 {
		n := tens(0, there)
		for count := range 256 {
			sector := standing(0, byte(count), numbersOf(n)...)
			if count != there || there == 0 {
				wantNoParse(t, "a wrong count", sector)
			} else if o, err := node.Parse(sector); err != nil || !equal(o, n) {
				t.Errorf("Parse of %d keys: %v, %v", there, o, err)
			}
		}
	}
}

// TestP10_1ParseLengths cuts the payloads of right nodes at each place, and lets them go on.
func TestP10_1ParseLengths(t *testing.T) {
	for count := 1; count <= most; count++ {
		n := tens(2, count)
		p := payload(2, byte(count), numbersOf(n)...)
		for length := range len(p) {
			wantNoParse(t, "a payload that is cut", framed(2, length, p[:length]))
			wantNoParse(t, "a length that is too small", framed(2, length, p))
		}
		for length := len(p) + 1; length <= api.Payload; length++ {
			wantNoParse(t, "a payload that goes on with noughts", framed(2, length, p))
			longer := append(slices.Clone(p), bytes.Repeat([]byte{1}, length-len(p))...)
			wantNoParse(t, "a payload that goes on", framed(2, length, longer))
			wantNoParse(t, "bytes behind the payload", framed(2, len(p), longer))
		}
		for length := api.Payload + 1; length < 256; length++ {
			wantNoParse(t, "a length that is no payload's", framed(2, length, p))
		}
	}
}

func TestP10_1ParseSizes(t *testing.T) {
	wantNoParse(t, "nil", nil)
	wantNoParse(t, "nothing", []byte{})
	for _, n := range right() {
		long := slices.Concat(encoded(n), encoded(n))
		for size := range len(long) + 1 {
			if size != api.Sector {
				wantNoParse(t, "a sector that is too short or too long", long[:size])
			}
		}
	}
	wantNoParse(t, "noughts", make([]byte, api.Sector))
	wantNoParse(t, "an empty payload", framed(2, 0, nil))
}

func TestP10_1ParseKinds(t *testing.T) {
	for _, n := range right() {
		p := payload(byte(n.Level), byte(len(n.Keys)), numbersOf(n)...)
		for kind := range 256 {
			if kind != 2 {
				wantNoParse(t, "another kind", framed(byte(kind), len(p), p))
			}
		}
	}
}

func TestP10_1ParseSums(t *testing.T) {
	for _, n := range right() {
		for bit := range 8 * api.Sector {
			b := encoded(n)
			b[bit/8] ^= 1 << (bit % 8)
			wantNoParse(t, "a sector with a bit turned", b)
		}
	}
}

func TestP10_1SameOfAll(t *testing.T) {
	all := append(right(), notRight()...)
	for i, n := range all {
		if !n.Same(copied(n)) || !copied(n).Same(n) {
			t.Errorf("%v is not Same as its copy", n)
		}
		for j, o := range all {
			if n.Same(o) != equal(n, o) {
				t.Errorf("Same of %v (%d) and %v (%d): %t", n, i, o, j, n.Same(o))
			}
		}
	}
}

// TestP10_1SameInOnePlace changes one number of a node, or adds or takes away one: they are not Same any more.
func TestP10_1SameInOnePlace(t *testing.T) {
	for _, n := range append(right(), notRight()...) {
		var others []node.Node
		for _, by := range []int{1, -1, math.MinInt} {
			other := copied(n)
			other.Level += by
			others = append(others, other)
			for i := range n.Keys {
				other = copied(n)
				other.Keys[i] += by
				others = append(others, other)
			}
			for i := range n.Vals {
				other = copied(n)
				other.Vals[i] += by
				others = append(others, other)
			}
		}
		others = append(others,
			node.Node{Level: n.Level, Keys: append(slices.Clone(n.Keys), 0), Vals: n.Vals},
			node.Node{Level: n.Level, Keys: n.Keys, Vals: append(slices.Clone(n.Vals), 0)})
		if len(n.Keys) > 0 {
			others = append(others, node.Node{Level: n.Level, Keys: n.Keys[1:], Vals: n.Vals}, node.Node{Level: n.Level, Keys: n.Keys[:len(n.Keys)-1], Vals: n.Vals})
		}
		if len(n.Vals) > 0 {
			others = append(others, node.Node{Level: n.Level, Keys: n.Keys, Vals: n.Vals[1:]}, node.Node{Level: n.Level, Keys: n.Keys, Vals: n.Vals[:len(n.Vals)-1]})
		}
		for _, other := range others {
			if n.Same(other) || other.Same(n) {
				t.Fatalf("%v is Same as %v", n, other)
			}
		}
	}
}

func TestP10_1SameOfNothing(t *testing.T) {
	empty := []int{}
	for _, n := range []node.Node{{}, {Keys: empty}, {Vals: empty}, {Keys: empty, Vals: empty}} {
		for _, o := range []node.Node{{}, {Keys: empty}, {Vals: empty}, {Keys: empty, Vals: empty}} {
			if !n.Same(o) {
				t.Errorf("%#v is not Same as %#v", n, o)
			}
		}
		if n.Same(node.Node{Level: 1}) || n.Same(with(0, pair(0, 0))) || with(0, pair(0, 0)).Same(n) {
			t.Errorf("%#v is Same as something else", n)
		}
	}
	if !(node.Node{Keys: []int{1, 2}}).Same(node.Node{Keys: []int{1, 2}, Vals: empty}) {
		t.Errorf("nil and empty Vals are told apart")
	}
	if (node.Node{Keys: []int{1, 2}, Vals: []int{3}}).Same(node.Node{Keys: []int{1}, Vals: []int{2, 3}}) {
		t.Errorf("Keys and Vals are taken for one list")
	}
	if (node.Node{Keys: []int{1}, Vals: []int{2}}).Same(node.Node{Keys: []int{2}, Vals: []int{1}}) {
		t.Errorf("Keys and Vals are taken for each other")
	}
}

// wantFind demands what Find tells.
func wantFind(t *testing.T, n node.Node, key, at int, exact bool) {
	t.Helper()
	if i, ok := n.Find(key); i != at || ok != exact {
		t.Errorf("Find(%d) of %v: %d, %t, not %d, %t", key, n.Keys, i, ok, at, exact)
	}
}

func TestP10_2FindExample(t *testing.T) {
	n := keyed(0, 1, 5, 9)
	wantFind(t, n, 6, 1, false)
	wantFind(t, n, 0, -1, false)
	wantFind(t, n, 1, 0, true)
	wantFind(t, n, 5, 1, true)
	wantFind(t, n, 9, 2, true)
	wantFind(t, n, 10, 2, false)
}

func TestP10_2Find(t *testing.T) {
	for count := 1; count <= most; count++ {
		n := tens(3, count)
		for _, key := range []int{math.MinInt, math.MinInt + 1, -10, -1, 0, 1, 9} {
			wantFind(t, n, key, -1, false)
		}
		for i, key := range n.Keys {
			wantFind(t, n, key, i, true)
			for between := key + 1; between < key+10; between++ {
				wantFind(t, n, between, i, false)
			}
		}
		for _, key := range []int{greatestKey, greatestKey + 1, math.MaxInt - 1, math.MaxInt} {
			wantFind(t, n, key, count-1, false)
		}
	}
}

func TestP10_2FindAtTheEnds(t *testing.T) {
	n := with(0, pair(0, 1), pair(greatestKey, 1))
	wantFind(t, n, -1, -1, false)
	wantFind(t, n, math.MinInt, -1, false)
	wantFind(t, n, 0, 0, true)
	wantFind(t, n, 1, 0, false)
	wantFind(t, n, greatestKey-1, 0, false)
	wantFind(t, n, greatestKey, 1, true)
	wantFind(t, n, greatestKey+1, 1, false)
	wantFind(t, n, math.MaxInt, 1, false)
}

// TestP1FindEnds asks nodes that are not right, of which nothing is promised but that each call ends.
func TestP1FindEnds(t *testing.T) {
	for _, n := range notRight() {
		for _, key := range append([]int{0, 1, 10, 15, 70, greatestKey}, noKeys...) {
			n.Find(key)
		}
	}
}
