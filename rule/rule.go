// Package rule: rules as the program holds them. They are read from a text,
// and make functions lighter from then on, whichever is applied where it fits.
package rule

import "chisel/code"

// Rule says that a value which its node fits may be made as its result says.
type Rule struct {
	node   Node
	result Result
}

// Part is a Name, a Hash, a Number or a Node.
type Part interface{ part() }

// Result is a Name, a Hash, a Number, a Make or a Reckon.
type Result interface{ result() }

// Name is any value; it has the same slot wherever it comes in a rule. Slots
// are numbered from 0 on, as the names first come in the node.
type Name struct{ Slot int }

// Hash is a name with #: a const.
type Hash struct{ Slot int }

// Number is a const of it.
type Number struct{ Number int32 }

// Node is an operation of parts.
type Node struct {
	Op    code.Op
	Parts []Part
}

// Make is a new value of an operation.
type Make struct {
	Op code.Op
	Of []Result
}

// Reckon is a new const: what the operation comes to. It is of Hashes,
// Numbers and Reckons.
type Reckon struct {
	Op code.Op
	Of []Result
}

func (Name) part()   {}
func (Hash) part()   {}
func (Number) part() {}
func (Node) part()   {}

func (Name) result()   {}
func (Hash) result()   {}
func (Number) result() {}
func (Make) result()   {}
func (Reckon) result() {}

// isHeavy tells of a rule that might not make a function lighter. All but the
// node's outermost value may stay, if something else uses it; a div always.
func (r Rule) isHeavy() bool {
	return r.node.Op == code.Div || weight(r.result) >= r.node.Op.Weight()
}

// weight is that of all that is new.
func weight(result Result) int {
	switch result := result.(type) {
	case Name:
		return 0
	case Make:
		sum := result.Op.Weight()
		for _, of := range result.Of {
			sum += weight(of)
		}
		return sum
	}
	return code.ConstWeight
}
