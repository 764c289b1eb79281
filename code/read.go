package code

import (
	"strings"

	"chisel/api"
	"chisel/scan"
)

// Read is the function of the text. It gives up by a panic with a scan.Fault:
// with ErrText, if the text is no function, with ErrForm, if that is not right.
func Read(text string) Function {
	if len(text) > api.MaxText {
		panic(scan.Fault{Why: api.ErrText})
	}
	r := reader{Reader: scan.Reader{Rest: text, Line: 1, Why: api.ErrText}}
	f := r.function()
	f.requireRight()
	return f
}

type reader struct {
	scan.Reader
	args int // how many the function has
}

func (r *reader) lineEnd() {
	r.Take("\n")
	r.Line++
}

func (r *reader) value() int {
	r.Take("v")
	return r.Below(api.MaxValues)
}

// target may be a block that there is not: the text is a function all the
// same, so this fault waits until all of the text is read. All numbers that no
// block can have are as wrong as the least of them.
func (r *reader) target() int {
	r.Take("b")
	return int(min(r.Number(), api.MaxBlocks))
}

func (r *reader) function() Function {
	r.Take("func ")
	r.args = r.Below(api.MaxArgs + 1)
	r.lineEnd()
	blocks := []Block{r.block(0)}
	for r.Rest != "" {
		blocks = append(blocks, r.block(len(blocks)))
	}
	return Function{Args: r.args, Blocks: blocks}
}

func (r *reader) block(number int) Block {
	r.Take("b")
	if r.Below(api.MaxBlocks) != number {
		r.Fail()
	}
	r.Take(":")
	r.lineEnd()
	values := r.values()
	last := r.last()
	r.lineEnd()
	return Block{Values: values, Last: last}
}

func (r *reader) values() []Value {
	var values []Value
	phis := true
	for strings.HasPrefix(r.Rest, "v") {
		number := r.value()
		r.Take(" = ")
		thing := r.thing()
		_, phi := thing.(Phi)
		if phi && !phis {
			r.Fail()
		}
		phis = phi
		r.lineEnd()
		values = append(values, Value{Number: number, Thing: thing})
	}
	return values
}

func (r *reader) thing() Thing {
	switch word := r.Letters(); word {
	case "phi":
		return Phi{Of: r.phiValues()}
	case "arg":
		r.Take(" ")
		return Arg{Number: r.Below(r.args)}
	case "const":
		r.Take(" ")
		return Const{Number: r.Signed()}
	default:
		return r.apply(word)
	}
}

func (r *reader) phiValues() []int {
	var of []int
	for r.Skip(" ") {
		of = append(of, r.value())
	}
	return of
}

func (r *reader) apply(word string) Apply {
	op, found := OpNamed(word)
	if !found {
		r.Fail()
	}
	of := make([]int, op.Of())
	for i := range of {
		r.Take(" ")
		of[i] = r.value()
	}
	return Apply{Op: op, Of: of}
}

func (r *reader) last() Last {
	switch word := r.Letters(); word {
	case "ret":
		r.Take(" ")
		return Ret{Of: r.value()}
	case "jump":
		r.Take(" ")
		return Jump{To: r.target()}
	case "if":
		return r.ifLast()
	}
	r.Fail()
	return nil
}

func (r *reader) ifLast() If {
	r.Take(" ")
	of := r.value()
	r.Take(" ")
	then := r.target()
	r.Take(" ")
	return If{Of: of, Then: then, Else: r.target()}
}
