package rule

import (
	"slices"
	"strings"

	"chisel/api"
	"chisel/code"
	"chisel/scan"
)

const maxLetters = 6

// Read is the rules of the text, in their order. It gives up by a panic with
// a scan.Fault, at the first line that has one: with ErrRule, ErrBound or
// ErrHeavy.
func Read(text string) []Rule {
	if len(text) > api.MaxRules {
		panic(scan.Fault{Why: api.ErrRule})
	}
	var rules []Rule
	for number := 1; text != ""; number++ {
		line, rest, ended := strings.Cut(text, "\n")
		r := reader{Reader: scan.Reader{Rest: line, Line: number, Why: api.ErrRule}}
		if !ended {
			r.Fail()
		}
		if line != "" && line[0] != ';' {
			rules = append(rules, r.rule())
		}
		text = rest
	}
	return rules
}

// reader reads one line.
type reader struct {
	scan.Reader
	names   []name // of the node, by their slots
	unbound bool
}

type name struct {
	word string
	hash bool
}

func (r *reader) rule() Rule {
	rule := Rule{node: r.node(1)}
	r.Take(" => ")
	rule.result = r.result(1)
	if r.Rest != "" {
		r.Fail()
	}
	if r.unbound {
		r.GiveUp(api.ErrBound)
	}
	if rule.isHeavy() {
		r.GiveUp(api.ErrHeavy)
	}
	return rule
}

func (r *reader) part(depth int) Part {
	if strings.HasPrefix(r.Rest, "(") {
		return r.node(depth)
	}
	return r.atom(r.bind)
}

func (r *reader) node(depth int) Node {
	op, parts := operation(r, depth, r.part)
	return Node{Op: op, Parts: parts}
}

func (r *reader) result(depth int) Result {
	if r.Skip("!") {
		return r.reckon(depth)
	}
	if strings.HasPrefix(r.Rest, "(") {
		op, of := operation(r, depth, r.result)
		return Make{Op: op, Of: of}
	}
	return r.atom(r.find)
}

func (r *reader) reckon(depth int) Reckon {
	op, of := operation(r, depth, r.known)
	if op == code.Div {
		r.Fail()
	}
	return Reckon{Op: op, Of: of}
}

// known takes a result whose number is known when the rule is applied.
func (r *reader) known(depth int) Result {
	result := r.result(depth)
	switch result.(type) {
	case Name, Make:
		r.Fail()
	}
	return result
}

// operation takes an operation in brackets, and what it is of by a reader of
// the same kind: parts or results.
func operation[T any](r *reader, depth int, each func(depth int) T) (code.Op, []T) {
	r.Take("(")
	op, found := code.OpNamed(r.Letters())
	if !found || depth > api.MaxDepth {
		r.Fail()
	}
	of := make([]T, op.Of())
	for i := range of {
		r.Take(" ")
		of[i] = each(depth + 1)
	}
	r.Take(")")
	return op, of
}

// atom is what both a node and a result may have.
type atom interface {
	Part
	Result
}

func (r *reader) atom(slot func(name) int) atom {
	hash := r.Skip("#")
	word := r.Letters()
	if word == "" && !hash {
		return Number{Number: r.Signed()}
	}
	if _, isOp := code.OpNamed(word); isOp || word == "" || len(word) > maxLetters {
		r.Fail()
	}
	if hash {
		return Hash{Slot: slot(name{word, true})}
	}
	return Name{Slot: slot(name{word, false})}
}

// bind is the slot of a node's name.
func (r *reader) bind(wanted name) int {
	for slot, has := range r.names {
		if has.word == wanted.word {
			if has.hash != wanted.hash {
				r.Fail()
			}
			return slot
		}
	}
	r.names = append(r.names, wanted)
	return len(r.names) - 1
}

// find is the slot of a result's name. That the node has none is a fault that
// waits until all of the line is read: the line may be no rule at all.
func (r *reader) find(wanted name) int {
	slot := slices.IndexFunc(r.names, func(has name) bool {
		return has.word == wanted.word && (has.hash || !wanted.hash)
	})
	r.unbound = r.unbound || slot < 0
	return slot
}
