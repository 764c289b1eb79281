package code

import "chisel/api"

// machine is a run of a function.
type machine struct {
	args   []int
	values [api.MaxValues]int32
	steps  int
	fuel   int
}

// Run runs the function: what ret gives, how many steps were made, and OK,
// ErrTrap or ErrFuel. There must be as many args as it has, each of 32 bits.
func (f Function) Run(args []int, fuel int) (int, int, api.Errno) {
	m := machine{args: args, fuel: fuel}
	result, errno := m.run(f)
	return int(result), m.steps, errno
}

func (m *machine) run(f Function) (int32, api.Errno) {
	places, _ := f.edges()
	at, place := 0, 0
	for {
		block := f.Blocks[at]
		if errno := m.makeValues(block.Values, place); errno != api.OK {
			return 0, errno
		}
		if !m.step() {
			return 0, api.ErrFuel
		}
		way := 0
		switch last := block.Last.(type) {
		case Ret:
			return m.values[last.Of], api.OK
		case If:
			way = int(oneIf(m.values[last.Of] == 0))
		}
		place = places[Edge{at, way}]
		at = targets(block.Last)[way]
	}
}

// step counts one more, if there is fuel for it.
func (m *machine) step() bool {
	if m.steps >= m.fuel {
		return false
	}
	m.steps++
	return true
}

// makeValues keeps the values as they were ahead of the block, because all of
// its phis take theirs at once.
func (m *machine) makeValues(values []Value, place int) api.Errno {
	before := m.values
	for _, value := range values {
		if !m.step() {
			return api.ErrFuel
		}
		switch thing := value.Thing.(type) {
		case Phi:
			m.values[value.Number] = before[thing.Of[place]]
		case Arg:
			m.values[value.Number] = int32(m.args[thing.Number])
		case Const:
			m.values[value.Number] = thing.Number
		case Apply:
			number, ok := m.reckon(thing)
			if !ok {
				return api.ErrTrap
			}
			m.values[value.Number] = number
		}
	}
	return api.OK
}

func (m *machine) reckon(apply Apply) (int32, bool) {
	first := m.values[apply.Of[0]]
	second := m.values[apply.Of[len(apply.Of)-1]]
	return apply.Op.Reckon(first, second)
}
