package code

import "chisel/api"

// set says of each v number whether it is in.
type set [api.MaxValues]bool

func (s set) hasAll(numbers []int) bool {
	for _, n := range numbers {
		if !s[n] {
			return false
		}
	}
	return true
}

func (s *set) add(numbers []int) {
	for _, n := range numbers {
		s[n] = true
	}
}

func (s set) both(other set) set {
	for n := range s {
		s[n] = s[n] && other[n]
	}
	return s
}

func everyNumber() set {
	var s set
	for n := range s {
		s[n] = true
	}
	return s
}
