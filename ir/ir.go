// Package ir: functions: see DOC.md, P2 and P3.
package ir

import (
	"math"

	"chisel/api"
	"chisel/code"
	"chisel/scan"
)

// Check looks through a function (P2).
func Check(text string) api.Errno {
	_, errno := read(text)
	return errno
}

// Weight weighs a function (P2).
func Weight(text string) (int, api.Errno) {
	function, errno := read(text)
	if errno != api.OK {
		return 0, errno
	}
	return function.Weight(), api.OK
}

// Run runs a function (P3).
func Run(text string, args []int, fuel int) (int, int, api.Errno) {
	function, errno := read(text)
	if errno != api.OK {
		return 0, 0, errno
	}
	if len(args) != function.Args || !allNumbers(args) || fuel < 0 || fuel > api.MaxFuel {
		return 0, 0, api.ErrArg
	}
	return function.Run(args, fuel)
}

// read catches what gives up within.
func read(text string) (function code.Function, errno api.Errno) {
	defer func() {
		if caught := recover(); caught != nil {
			errno = scan.FaultOf(caught).Why
		}
	}()
	return code.Read(text), api.OK
}

func allNumbers(args []int) bool {
	for _, arg := range args {
		if arg < math.MinInt32 || arg > math.MaxInt32 {
			return false
		}
	}
	return true
}
