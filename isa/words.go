package isa

import (
	"math"

	"gatehouse/api"
)

// word is what stands behind the name in an instruction's text: one of its registers, or its number.
type word int

// The words; those of the number by what it may be.
const (
	noWord   word = iota
	wordA         // a register
	wordB         // another one
	wordC         // a third one
	wordByte      // a number of 8 bits
	wordWide      // a number of 16 bits
	wordJump      // a number of 16 bits, one of them the sign: a place may stand for it
)

// maxWords is how many words an instruction has at most.
const maxWords = 3

// shape is the words of an instruction, one behind the other; noWord fills it up.
type shape [maxWords]word

// names has the name of each operation, at its number.
var names = [...]string{
	api.OpHalt: "halt",
	api.OpNop:  "nop",
	api.OpSys:  "sys",
	api.OpSet:  "set",
	api.OpMore: "more",
	api.OpMove: "move",
	api.OpAdd:  "add",
	api.OpSub:  "sub",
	api.OpMul:  "mul",
	api.OpDiv:  "div",
	api.OpMod:  "mod",
	api.OpAnd:  "and",
	api.OpOr:   "or",
	api.OpXor:  "xor",
	api.OpShl:  "shl",
	api.OpShr:  "shr",
	api.OpLess: "less",
	api.OpSame: "same",
	api.OpLoad: "load",
	api.OpKeep: "keep",
	api.OpPull: "pull",
	api.OpPush: "push",
	api.OpGo:   "go",
	api.OpZero: "zero",
	api.OpNot:  "not",
	api.OpCall: "call",
	api.OpBack: "back",
}

func isOp(n int) bool { return 0 <= n && n < len(names) }

// shapeOf answers something of any number, as an instruction that isn't right may have any.
func shapeOf(op int) shape {
	switch op {
	case api.OpSet, api.OpMore:
		return shape{wordA, wordWide}
	case api.OpMove, api.OpCall:
		return shape{wordA, wordB}
	case api.OpAdd, api.OpSub, api.OpMul, api.OpDiv, api.OpMod, api.OpAnd,
		api.OpOr, api.OpXor, api.OpShl, api.OpShr, api.OpLess, api.OpSame:
		return shape{wordA, wordB, wordC}
	case api.OpLoad, api.OpKeep, api.OpPull, api.OpPush:
		return shape{wordA, wordB, wordByte}
	case api.OpGo:
		return shape{wordJump}
	case api.OpZero, api.OpNot:
		return shape{wordA, wordJump}
	}
	return shape{}
}

func isRegister(w word) bool { return w == wordA || w == wordB || w == wordC }

// bounds answers the least and the greatest number that a word may say.
func bounds(w word) (low, high int) {
	switch w {
	case wordA, wordB, wordC:
		return 0, api.Regs - 1
	case wordByte:
		return 0, math.MaxUint8
	case wordWide:
		return 0, math.MaxUint16
	case wordJump:
		return math.MinInt16, math.MaxInt16
	}
	return 0, 0
}

// place answers where a word stands among an instruction's bytes, and how many of them it has.
func place(w word) (at, size int) {
	switch w {
	case wordA:
		return 1, 1
	case wordB:
		return 2, 1
	case wordC, wordByte:
		return 3, 1
	case wordWide, wordJump:
		return 2, 2
	}
	return 0, 0
}

// field answers what an instruction has for a word.
func field(c api.Code, w word) int {
	switch w {
	case wordA:
		return c.A
	case wordB:
		return c.B
	case wordC:
		return c.C
	case wordByte, wordWide, wordJump:
		return c.N
	}
	return 0
}

// with answers the instruction that has this number for a word.
func with(c api.Code, w word, n int) api.Code {
	switch w {
	case wordA:
		c.A = n
	case wordB:
		c.B = n
	case wordC:
		c.C = n
	case wordByte, wordWide, wordJump:
		c.N = n
	}
	return c
}
