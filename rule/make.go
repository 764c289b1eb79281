package rule

import (
	"chisel/api"
	"chisel/code"
)

// maker makes a result of what fitted.
type maker struct {
	fit
	made []code.Value
	next int // above all v numbers that are taken; it may come to be past the last one that there is
}

// value is the v number of a result that stands within another.
func (m *maker) value(result Result) int {
	switch result := result.(type) {
	case Name:
		return m.of[result.Slot]
	}
	thing := m.thing(result)
	number := m.free()
	m.made = append(m.made, code.Value{Number: number, Thing: thing})
	return number
}

// thing is what is made last of a result that is no name; what that is of is
// made ahead of it.
func (m *maker) thing(result Result) code.Thing {
	switch result := result.(type) {
	case Make:
		of := make([]int, len(result.Of))
		for i := range of {
			of[i] = m.value(result.Of[i])
		}
		return code.Apply{Op: result.Op, Of: of}
	}
	return code.Const{Number: m.number(result)}
}

func (m *maker) number(result Result) int32 {
	switch result := result.(type) {
	case Number:
		return result.Number
	case Hash:
		number, _ := m.constant(m.of[result.Slot])
		return number
	case Reckon:
		first := m.number(result.Of[0])
		second := m.number(result.Of[len(result.Of)-1])
		number, _ := result.Op.Reckon(first, second)
		return number
	}
	return 0
}

// free takes the least v number that is free.
func (m *maker) free() int {
	for m.next < api.MaxValues && m.things[m.next] != nil {
		m.next++
	}
	m.next++
	return m.next - 1
}
