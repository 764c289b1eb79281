package code

import (
	"strconv"
	"strings"
)

// Text is the function as it is read.
func (f Function) Text() string {
	var text strings.Builder
	text.WriteString(numbered("func ", f.Args) + "\n")
	for b, block := range f.Blocks {
		text.WriteString(numbered("b", b) + ":\n")
		for _, value := range block.Values {
			text.WriteString(numbered("v", value.Number) + " = " + thingText(value.Thing) + "\n")
		}
		text.WriteString(lastText(block.Last) + "\n")
	}
	return text.String()
}

func thingText(thing Thing) string {
	switch thing := thing.(type) {
	case Phi:
		return "phi" + numbered(" v", thing.Of...)
	case Arg:
		return numbered("arg ", thing.Number)
	case Const:
		return numbered("const ", int(thing.Number))
	case Apply:
		return thing.Op.Name() + numbered(" v", thing.Of...)
	}
	return ""
}

func lastText(last Last) string {
	switch last := last.(type) {
	case Ret:
		return "ret" + numbered(" v", last.Of)
	case Jump:
		return "jump" + numbered(" b", last.To)
	case If:
		return "if" + numbered(" v", last.Of) + numbered(" b", last.Then, last.Else)
	}
	return ""
}

// numbered is the mark ahead of each number, one behind the other.
func numbered(mark string, numbers ...int) string {
	text := ""
	for _, number := range numbers {
		text += mark + strconv.Itoa(number)
	}
	return text
}
