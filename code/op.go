package code

// Op is an operation: the number of its row in the table.
type Op int

const (
	Add Op = iota
	Sub
	Mul
	Div
	And
	Or
	Xor
	Shl
	Shr
	Eq
	Lt
	Neg
	Not
)

type opRow struct {
	name   string
	of     int
	weight int
}

// The rows stand in the order of the constants above.
var opTable = [13]opRow{
	{"add", 2, 4},
	{"sub", 2, 4},
	{"mul", 2, 12},
	{"div", 2, 20},
	{"and", 2, 4},
	{"or", 2, 4},
	{"xor", 2, 4},
	{"shl", 2, 5},
	{"shr", 2, 5},
	{"eq", 2, 4},
	{"lt", 2, 4},
	{"neg", 1, 3},
	{"not", 1, 3},
}

// OpNamed is the operation of that name, if there is one.
func OpNamed(name string) (Op, bool) {
	for i, row := range opTable {
		if row.name == name {
			return Op(i), true
		}
	}
	return 0, false
}

// Name is what the operation is called in texts.
func (op Op) Name() string { return opTable[op].name }

// Of is how many values the operation takes.
func (op Op) Of() int { return opTable[op].of }

// Weight is what the operation weighs.
func (op Op) Weight() int { return opTable[op].weight }

// Reckon is what the operation comes to; false, if it traps. An operation of
// one value leaves b aside.
func (op Op) Reckon(a, b int32) (int32, bool) {
	switch op {
	case Add:
		return a + b, true
	case Sub:
		return a - b, true
	case Mul:
		return a * b, true
	case Div:
		return quotient(a, b)
	case And:
		return a & b, true
	case Or:
		return a | b, true
	case Xor:
		return a ^ b, true
	case Shl:
		return a << lowestFive(b), true
	case Shr:
		return a >> lowestFive(b), true
	case Eq:
		return oneIf(a == b), true
	case Lt:
		return oneIf(a < b), true
	case Neg:
		return -a, true
	default:
		return ^a, true
	}
}

// The least number by -1 needs no case of its own: Go's quotient wraps round.
func quotient(a, b int32) (int32, bool) {
	if b == 0 {
		return 0, false
	}
	return a / b, true
}

func lowestFive(b int32) uint32 { return uint32(b) & 31 }

func oneIf(holds bool) int32 {
	if holds {
		return 1
	}
	return 0
}
