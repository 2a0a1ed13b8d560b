package vault

import (
	"cmp"
	"slices"
)

// taken are the slots that have some bytes, by the blocks that these begin at.
func (v *Vault) taken() []slot {
	l := slices.DeleteFunc(slices.Clone(v.slots), func(s slot) bool { return s.size == 0 })
	slices.SortFunc(l, func(s, t slot) int { return cmp.Compare(s.from, t.from) })
	return l
}

// gap is the first block of data from which on so many blocks are free, and whether there is one. Bytes of a device that somebody else wrote may lie one in the other, so that the place never goes back.
func (v *Vault) gap(need int) (int, bool) {
	at := len(v.slots)
	for _, s := range v.taken() {
		if s.from-at >= need {
			return at, true
		}
		at = max(at, s.end())
	}
	return at, v.device.Blocks()-at >= need
}

// Used is how many slots, and how many blocks of bytes, are taken: those that several slots have count once. Of a nil or a dead vault nothing.
func (v *Vault) Used() (many, blocks int) {
	if !v.lives() {
		return 0, 0
	}
	for _, s := range v.slots {
		if !s.empty() {
			many++
		}
	}
	behind := 0
	for _, s := range v.taken() {
		blocks += max(s.end()-max(s.from, behind), 0)
		behind = max(behind, s.end())
	}
	return many, blocks
}
