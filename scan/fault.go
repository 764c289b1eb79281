// Package scan: how a text is gone through, and how it is given up.
package scan

import "chisel/api"

// Fault is what reading gives up with, by a panic: the calls that the
// document lists catch it, and answer why.
type Fault struct {
	Why   api.Errno
	Where int // the line of the text, from 1 on; 0, if it is the whole
}

// FaultOf is the fault that was caught; every other panic is a fault of the
// program itself, and goes on.
func FaultOf(caught any) Fault {
	fault, ok := caught.(Fault)
	if !ok {
		panic(caught)
	}
	return fault
}
