package code

import "chisel/api"

// Fault is what reading gives up with, by a panic: the calls that the
// document lists catch it, and answer why.
type Fault struct {
	Why   api.Errno
	Where int // the line of the text, from 1 on; 0, if it is the whole
}
