package rule

import (
	"chisel/api"
	"chisel/code"
)

// pair is a value and a rule that fits it.
type pair struct {
	place code.Place
	rule  Rule
}

// Rewrite applies rules to the function, until none fits: what it is then, in
// how many steps, and OK; or ErrRoom, and what it was ahead of the step for
// which there was no room.
func Rewrite(rules []Rule, f code.Function, picks []int) (code.Function, int, api.Errno) {
	for steps := 0; ; steps++ {
		pairs := allPairs(rules, f)
		if len(pairs) == 0 {
			return f, steps, api.OK
		}
		next, room := step(f, pairs[picked(picks, steps, len(pairs))])
		if !room {
			return f, steps, api.ErrRoom
		}
		f = next
	}
}

func allPairs(rules []Rule, f code.Function) []pair {
	var pairs []pair
	things := f.Things()
	for b, block := range f.Blocks {
		for i, value := range block.Values {
			for _, rule := range rules {
				if _, fits := rule.fitted(&things, value.Number); fits {
					pairs = append(pairs, pair{code.Place{Block: b, Index: i}, rule})
				}
			}
		}
	}
	return pairs
}

// picked is which of n pairs is taken.
func picked(picks []int, step, n int) int {
	if step >= len(picks) {
		return 0
	}
	// Go's rest has the sign of the pick.
	return (picks[step]%n + n) % n
}

// step is the function behind the step; false, if there is no room for it.
func step(f code.Function, p pair) (code.Function, bool) {
	things := f.Things()
	value := f.At(p.place)
	fit, _ := p.rule.fitted(&things, value.Number)
	var next code.Function
	switch result := p.rule.result.(type) {
	case Name:
		next = f.Put(p.place, nil).Renamed(value.Number, fit.of[result.Slot])
	default:
		m := maker{fit: fit}
		thing := m.thing(result)
		if m.next > api.MaxValues {
			return f, false
		}
		next = f.Put(p.place, append(m.made, code.Value{Number: value.Number, Thing: thing}))
	}
	next = next.Swept()
	return next, len(next.Text()) <= api.MaxText
}
