package code

import "slices"

// Place is where a value stands: in which block, and at which index there.
type Place struct{ Block, Index int }

// At is the value at the place.
func (f Function) At(place Place) Value { return f.Blocks[place.Block].Values[place.Index] }

// Put is the function with these values instead of the one at the place.
func (f Function) Put(place Place, values []Value) Function {
	blocks := slices.Clone(f.Blocks)
	old := blocks[place.Block].Values
	blocks[place.Block].Values = slices.Concat(old[:place.Index], values, old[place.Index+1:])
	return Function{Args: f.Args, Blocks: blocks}
}

// Renamed is the function with each use of one v number turned into one of
// another.
func (f Function) Renamed(from, to int) Function {
	blocks := make([]Block, len(f.Blocks))
	for b, block := range f.Blocks {
		values := make([]Value, len(block.Values))
		for i, value := range block.Values {
			values[i] = Value{Number: value.Number, Thing: renamedThing(value.Thing, from, to)}
		}
		blocks[b] = Block{Values: values, Last: renamedLast(block.Last, from, to)}
	}
	return Function{Args: f.Args, Blocks: blocks}
}

func renamedThing(thing Thing, from, to int) Thing {
	switch thing := thing.(type) {
	case Phi:
		return Phi{Of: renamedAll(thing.Of, from, to)}
	case Apply:
		return Apply{Op: thing.Op, Of: renamedAll(thing.Of, from, to)}
	}
	return thing
}

func renamedLast(last Last, from, to int) Last {
	switch last := last.(type) {
	case Ret:
		return Ret{Of: renamed(last.Of, from, to)}
	case If:
		return If{Of: renamed(last.Of, from, to), Then: last.Then, Else: last.Else}
	}
	return last
}

func renamedAll(numbers []int, from, to int) []int {
	all := make([]int, len(numbers))
	for i, number := range numbers {
		all[i] = renamed(number, from, to)
	}
	return all
}

func renamed(number, from, to int) int {
	if number == from {
		return to
	}
	return number
}

// Swept is the function without what nothing uses. A div stays: it may trap.
func (f Function) Swept() Function {
	for {
		swept, gone := f.sweptOnce()
		if gone == 0 {
			return swept
		}
		f = swept
	}
}

// sweptOnce tells how many values went, because what only they used is used
// by nothing now.
func (f Function) sweptOnce() (Function, int) {
	used := f.used()
	gone := 0
	blocks := make([]Block, len(f.Blocks))
	for b, block := range f.Blocks {
		kept := slices.DeleteFunc(slices.Clone(block.Values), func(value Value) bool {
			return !used[value.Number] && !isDiv(value.Thing)
		})
		gone += len(block.Values) - len(kept)
		blocks[b] = Block{Values: kept, Last: block.Last}
	}
	return Function{Args: f.Args, Blocks: blocks}, gone
}

func isDiv(thing Thing) bool {
	switch thing := thing.(type) {
	case Apply:
		return thing.Op == Div
	}
	return false
}
