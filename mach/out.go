package mach

import (
	"gatehouse/api"
	"gatehouse/label"
)

// What a mapping may be used for, as signs of one number.
const (
	mayWrite = 1
	mayRun   = 2
)

// hasOut tells whether a call's answer has bytes.
func hasOut(op int) bool {
	switch op {
	case api.CallRead, api.CallHear, api.CallList, api.CallLook, api.CallSelf, api.CallMapped:
		return true
	}
	return false
}

// outOf answers a call's answer as bytes.
func outOf(op int, told api.Told) string {
	switch op {
	case api.CallRead, api.CallHear:
		return told.S
	case api.CallList:
		return numbers(told.List)
	case api.CallLook:
		return label.Bytes(told.L) + numbers(told.List)
	case api.CallSelf:
		return label.Bytes(told.L) + label.Bytes(told.M)
	case api.CallMapped:
		return numbers(mapNumbers(told.Maps))
	}
	return ""
}

// numbers answers each number as eight bytes, the lowest first.
func numbers(list []int) string {
	row := make([]byte, 0, 8*len(list))
	for _, n := range list {
		for i := range 8 {
			row = append(row, byte(n>>(8*i)))
		}
	}
	return string(row)
}

// mapNumbers answers the numbers by which mappings are told.
func mapNumbers(maps []api.Map) []int {
	var list []int
	for _, m := range maps {
		uses := 0
		if m.Write {
			uses |= mayWrite
		}
		if m.Run {
			uses |= mayRun
		}
		list = append(list, m.At, m.Pages, m.In, m.Id, m.From, uses)
	}
	return list
}
