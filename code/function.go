// Package code: functions as the program holds them. They are read from a
// text, and are right from then on; they can be weighed, run, changed and
// written again. What changes one makes another, and leaves it as it was.
package code

// Function is a function that is right.
type Function struct {
	Args   int
	Blocks []Block
}

// Block is what is made, phis first, and where it goes on from there.
type Block struct {
	Values []Value
	Last   Last
}

// Value is a thing under its v number.
type Value struct {
	Number int
	Thing  Thing
}

// Thing is a Phi, an Arg, a Const or an Apply.
type Thing interface{ thing() }

// Phi is one v number for each edge into its block.
type Phi struct{ Of []int }

// Arg is an argument of the function.
type Arg struct{ Number int }

// Const is a number.
type Const struct{ Number int32 }

// Apply is an operation of v numbers.
type Apply struct {
	Op Op
	Of []int
}

func (Phi) thing()   {}
func (Arg) thing()   {}
func (Const) thing() {}
func (Apply) thing() {}

// Last is a Ret, a Jump or an If.
type Last interface{ last() }

// Ret ends the run with a v number.
type Ret struct{ Of int }

// Jump goes to a block.
type Jump struct{ To int }

// If goes to Then, if the v number is not 0, else to Else.
type If struct{ Of, Then, Else int }

func (Ret) last()  {}
func (Jump) last() {}
func (If) last()   {}

// Edge is a way from one block to another: of an If, Then is way 0 and Else
// way 1; so two edges between the same blocks are still two.
type Edge struct{ From, Way int }

// targets are the blocks to which it goes, by the numbers of their ways.
func targets(last Last) []int {
	switch last := last.(type) {
	case Jump:
		return []int{last.To}
	case If:
		return []int{last.Then, last.Else}
	}
	return nil
}

// edges tells of each edge which place it has among those into its block, and
// of each block how many there are.
func (f Function) edges() (map[Edge]int, []int) {
	places := make(map[Edge]int)
	counts := make([]int, len(f.Blocks))
	for from, block := range f.Blocks {
		for way, to := range targets(block.Last) {
			places[Edge{from, way}] = counts[to]
			counts[to]++
		}
	}
	return places, counts
}

// ConstWeight is what a const weighs.
const ConstWeight = 1

// Weight is the sum of the weights of its values.
func (f Function) Weight() int {
	sum := 0
	for _, block := range f.Blocks {
		for _, value := range block.Values {
			sum += weight(value.Thing)
		}
	}
	return sum
}

func weight(thing Thing) int {
	switch thing := thing.(type) {
	case Const:
		return ConstWeight
	case Apply:
		return thing.Op.Weight()
	}
	return 0
}
