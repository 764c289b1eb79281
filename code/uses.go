package code

import "chisel/api"

// usesInPlace leaves phis aside: they use theirs at the ends of other blocks.
func usesInPlace(thing Thing) []int {
	switch thing := thing.(type) {
	case Apply:
		return thing.Of
	}
	return nil
}

func usesOfLast(last Last) []int {
	switch last := last.(type) {
	case Ret:
		return []int{last.Of}
	case If:
		return []int{last.Of}
	}
	return nil
}

func uses(thing Thing) []int {
	switch thing := thing.(type) {
	case Phi:
		return thing.Of
	}
	return usesInPlace(thing)
}

// used are all v numbers that something uses.
func (f Function) used() set {
	var used set
	for _, block := range f.Blocks {
		for _, value := range block.Values {
			used.add(uses(value.Thing))
		}
		used.add(usesOfLast(block.Last))
	}
	return used
}

// Things are the function's by their v numbers; nil, where one is free.
func (f Function) Things() [api.MaxValues]Thing {
	var things [api.MaxValues]Thing
	for _, block := range f.Blocks {
		for _, value := range block.Values {
			things[value.Number] = value.Thing
		}
	}
	return things
}
