package rule

import (
	"chisel/api"
	"chisel/code"
)

// fit is a node that is being held against a value.
type fit struct {
	things *[api.MaxValues]code.Thing
	of     []int // the v number that fitted each slot, of the first place it has
}

// fitted holds the rule's node against the value of that v number.
func (r Rule) fitted(things *[api.MaxValues]code.Thing, value int) (fit, bool) {
	f := fit{things: things}
	fits := f.part(r.node, value)
	return f, fits
}

func (f *fit) part(part Part, value int) bool {
	switch part := part.(type) {
	case Name:
		return f.first(part.Slot, value) == value
	case Hash:
		number, ok := f.constant(value)
		if !ok {
			return false
		}
		same, _ := f.constant(f.first(part.Slot, value))
		return same == number
	case Number:
		number, ok := f.constant(value)
		return ok && number == part.Number
	case Node:
		return f.node(part, value)
	}
	return false
}

func (f *fit) node(node Node, value int) bool {
	switch thing := f.things[value].(type) {
	case code.Apply:
		if thing.Op != node.Op {
			return false
		}
		for i, part := range node.Parts {
			if !f.part(part, thing.Of[i]) {
				return false
			}
		}
		return true
	}
	return false
}

func (f *fit) constant(value int) (int32, bool) {
	switch thing := f.things[value].(type) {
	case code.Const:
		return thing.Number, true
	}
	return 0, false
}

// first is what fitted the slot first: this value, if none has. Parts are come
// to in the order in which their slots were numbered, so a slot that has none
// is the next one.
func (f *fit) first(slot, value int) int {
	if slot == len(f.of) {
		f.of = append(f.of, value)
	}
	return f.of[slot]
}
