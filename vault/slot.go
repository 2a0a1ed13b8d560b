package vault

import (
	"zoetrope/api"
	"zoetrope/drum"
	"zoetrope/reel"
)

// The kinds of what is kept; an empty slot has none of them.
const (
	Job = 1 + iota
	Work
)

// blocksPerSlot is how many blocks a device has for each of its slots, the slot itself among them.
const blocksPerSlot = 4

// known tells whether there is such a kind.
func known(kind int) bool { return kind == Job || kind == Work }

// Slots is how many slots a device of so many blocks has.
func Slots(blocks int) int { return min(max(blocks/blocksPerSlot, 0), api.MaxSlots) }

// Need is how many blocks so many bytes take. The rest is looked at apart, as a sum could go beyond an int.
func Need(size int) int {
	n := max(size, 0)
	if n%api.BlockSize == 0 {
		return n / api.BlockSize
	}
	return n/api.BlockSize + 1
}

// slot tells what is kept under a key: its kind, its sum, how many bytes it is, and from which block on they are. An empty one is zero.
type slot struct {
	kind       int
	key, sum   api.Digest
	size, from int
}

// empty tells whether nothing is kept.
func (s slot) empty() bool { return s == slot{} }

// end is the block behind a slot's bytes.
func (s slot) end() int { return s.from + Need(s.size) }

// block is a slot as it stands on a device.
func (s slot) block() drum.Block {
	w := reel.New()
	w.Byte(s.kind)
	w.Sum(s.key)
	w.Sum(s.sum)
	w.Word(s.size, s.from)
	var b drum.Block
	copy(b[:], w.Bytes())
	return b
}

// read is the slot that a block tells, and whether it tells one: laid again it must be the same block, or there is something behind it.
func read(b drum.Block) (slot, bool) {
	r := reel.Read(b[:])
	s := slot{kind: r.Byte(), key: r.Sum(), sum: r.Sum(), size: r.Word(), from: r.Word()}
	return s, s.block() == b && (s.empty() || known(s.kind))
}

// under is whether something is kept under that key.
func under(key api.Digest) func(slot) bool {
	return func(s slot) bool { return !s.empty() && s.key == key }
}

// holding is whether bytes of that sum and that number are kept.
func holding(sum api.Digest, size int) func(slot) bool {
	return func(s slot) bool { return !s.empty() && s.sum == sum && s.size == size }
}
