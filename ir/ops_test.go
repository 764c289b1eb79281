package ir_test

import (
	"math"
	"math/big"
	"testing"

	"chisel/api"
)

// edgeNumbers are held against one another, each with each.
var edgeNumbers = []int{math.MinInt32, math.MinInt32 + 1, -65536, -33, -32, -31, -8, -7, -2, -1, 0, 1, 2, 3, 7, 8, 31, 32, 33, 65535, 65536, math.MaxInt32 - 1, math.MaxInt32}

func lowest32(n *big.Int) int {
	low := new(big.Int).And(n, big.NewInt(math.MaxUint32))
	return int(int32(uint32(low.Uint64())))
}

func truth(holds bool) *big.Int {
	if holds {
		return big.NewInt(1)
	}
	return new(big.Int)
}

// reckoned is the operation in whole numbers without end; nil, if it traps.
func reckoned(op string, x, y int) *big.Int {
	a, b, n := big.NewInt(int64(x)), big.NewInt(int64(y)), new(big.Int)
	bits := uint(new(big.Int).And(b, big.NewInt(31)).Uint64())
	switch op {
	case "add":
		return n.Add(a, b)
	case "sub":
		return n.Sub(a, b)
	case "mul":
		return n.Mul(a, b)
	case "div":
		if b.Sign() == 0 {
			return nil
		}
		return n.Quo(a, b)
	case "and":
		return n.And(a, b)
	case "or":
		return n.Or(a, b)
	case "xor":
		return n.Xor(a, b)
	case "shl":
		return n.Lsh(a, bits)
	case "shr":
		return n.Rsh(a, bits)
	case "eq":
		return truth(a.Cmp(b) == 0)
	case "lt":
		return truth(a.Cmp(b) < 0)
	case "neg":
		return n.Neg(a)
	case "not":
		return n.Not(a)
	}
	panic("no operation " + op)
}

func TestP3Operations(t *testing.T) {
	for _, op := range []string{"add", "sub", "mul", "div", "and", "or", "xor", "shl", "shr", "eq", "lt"} {
		text := lines("func 2", "b0:", "v0 = arg 0", "v1 = arg 1", "v2 = "+op+" v0 v1", "ret v2")
		for _, a := range edgeNumbers {
			for _, b := range edgeNumbers {
				if want := reckoned(op, a, b); want != nil {
					wantRun(t, text, []int{a, b}, 4, lowest32(want), 4, api.OK)
				} else {
					wantRun(t, text, []int{a, b}, 4, 0, 3, api.ErrTrap)
				}
			}
		}
	}
	for _, op := range []string{"neg", "not"} {
		text := lines("func 1", "b0:", "v0 = arg 0", "v1 = "+op+" v0", "ret v1")
		for _, a := range edgeNumbers {
			wantRun(t, text, []int{a}, 3, lowest32(reckoned(op, a, 0)), 3, api.OK)
		}
	}
}

func TestP3OperationsByHand(t *testing.T) {
	const least, most = math.MinInt32, math.MaxInt32
	for _, c := range []struct {
		op         string
		a, b, want int
	}{
		{"add", most, 1, least}, {"sub", least, 1, most}, {"mul", most, most, 1},
		{"div", -7, 2, -3}, {"div", 7, -2, -3}, {"div", least, -1, least},
		{"shl", 1, 31, least}, {"shl", 1, 32, 1}, {"shl", 1, -1, least},
		{"shr", -1, 31, -1}, {"shr", least, 33, -1 << 30}, {"shr", 8, -29, 1},
		{"eq", least, least, 1}, {"eq", 0, 1, 0}, {"lt", least, most, 1}, {"lt", 0, 0, 0},
	} {
		text := lines("func 2", "b0:", "v0 = arg 0", "v1 = arg 1", "v2 = "+c.op+" v0 v1", "ret v2")
		wantRun(t, text, []int{c.a, c.b}, 4, c.want, 4, api.OK)
	}
	wantRun(t, lines("func 1", "b0:", "v0 = arg 0", "v1 = neg v0", "ret v1"), []int{least}, 3, least, 3, api.OK)
	wantRun(t, lines("func 1", "b0:", "v0 = arg 0", "v1 = not v0", "ret v1"), []int{most}, 3, least, 3, api.OK)
}
