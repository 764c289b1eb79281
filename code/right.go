package code

import (
	"chisel/api"
	"chisel/scan"
)

// requireRight gives up, if the function is not right. Whether the targets
// are there comes ahead of all that follows them.
func (f Function) requireRight() {
	f.requireMadeOnce()
	f.requireTargets()
	f.requireReached()
	f.requirePhis()
	f.requireMadeAhead()
}

// fail names the line of a block's value (-1 is its head, and the one behind
// the values its last): a text is written in one way, so lines can be counted.
func (f Function) fail(block, index int) {
	line := 3 + index
	for _, earlier := range f.Blocks[:block] {
		line += len(earlier.Values) + 2
	}
	panic(scan.Fault{Why: api.ErrForm, Where: line})
}

func (f Function) failLast(block int) { f.fail(block, len(f.Blocks[block].Values)) }

func (f Function) requireMadeOnce() {
	var made set
	for b, block := range f.Blocks {
		for i, value := range block.Values {
			if made[value.Number] {
				f.fail(b, i)
			}
			made[value.Number] = true
		}
	}
}

func (f Function) requireTargets() {
	for b, block := range f.Blocks {
		for _, to := range targets(block.Last) {
			if to < 1 || to >= len(f.Blocks) {
				f.failLast(b)
			}
		}
	}
}

func (f Function) requireReached() {
	reached := make([]bool, len(f.Blocks))
	f.reach(0, reached)
	for b := range reached {
		if !reached[b] {
			f.fail(b, -1)
		}
	}
}

// reach marks the block and all that can be come to from it.
func (f Function) reach(block int, reached []bool) {
	if reached[block] {
		return
	}
	reached[block] = true
	for _, to := range targets(f.Blocks[block].Last) {
		f.reach(to, reached)
	}
}

func (f Function) requirePhis() {
	_, counts := f.edges()
	for b, block := range f.Blocks {
		for i, value := range block.Values {
			phi, ok := value.Thing.(Phi)
			if ok && (b == 0 || len(phi.Of) != counts[b]) {
				f.fail(b, i)
			}
		}
	}
}

func (f Function) requireMadeAhead() {
	places, _ := f.edges()
	ahead := f.madeAhead()
	for b, block := range f.Blocks {
		made := ahead[b]
		for i, value := range block.Values {
			if !made.hasAll(usesInPlace(value.Thing)) {
				f.fail(b, i)
			}
			made[value.Number] = true
		}
		if !made.hasAll(usesOfLast(block.Last)) {
			f.failLast(b)
		}
		for way, to := range targets(block.Last) {
			f.requirePhisMade(to, places[Edge{b, way}], made)
		}
	}
}

// requirePhisMade holds what a block's phis take over one edge against what
// is made at the end of the block from which that comes.
func (f Function) requirePhisMade(block, place int, made set) {
	for i, value := range f.Blocks[block].Values {
		phi, ok := value.Thing.(Phi)
		if ok && !made[phi.Of[place]] {
			f.fail(block, i)
		}
	}
}

// madeAhead is, for each block, what is made on every way to its beginning.
// It begins with too much and takes away, because a loop's own values are
// ahead of it only if no other way into it lacks them.
func (f Function) madeAhead() []set {
	ahead := make([]set, len(f.Blocks))
	for b := 1; b < len(ahead); b++ {
		ahead[b] = everyNumber()
	}
	for changed := true; changed; {
		changed = false
		for b, block := range f.Blocks {
			end := block.madeAtEnd(ahead[b])
			for _, to := range targets(block.Last) {
				less := ahead[to].both(end)
				changed = changed || less != ahead[to]
				ahead[to] = less
			}
		}
	}
	return ahead
}

func (b Block) madeAtEnd(made set) set {
	for _, value := range b.Values {
		made[value.Number] = true
	}
	return made
}
