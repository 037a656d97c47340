package cpu

import (
	"math"

	"gatehouse/api"
)

// result answers what becomes of an instruction's register, of what its registers are: those that take nothing but registers and the instruction's number.
func result(code api.Code, a, b, c uint64) uint64 {
	switch code.Op {
	case api.OpSet:
		return uint64(code.N)
	case api.OpMore:
		return a<<16 + uint64(code.N)
	case api.OpMove:
		return b
	case api.OpAdd:
		return b + c
	case api.OpSub:
		return b - c
	case api.OpMul:
		return b * c
	case api.OpDiv:
		return quotient(b, c)
	case api.OpMod:
		return rest(b, c)
	case api.OpAnd:
		return b & c
	case api.OpOr:
		return b | c
	case api.OpXor:
		return b ^ c
	case api.OpShl:
		return b << c
	case api.OpShr:
		return b >> c
	case api.OpLess:
		return truth(b < c)
	case api.OpSame:
		return truth(b == c)
	}
	return a
}

func quotient(b, c uint64) uint64 {
	if c == 0 {
		return math.MaxUint64
	}
	return b / c
}

func rest(b, c uint64) uint64 {
	if c == 0 {
		return b
	}
	return b % c
}

func truth(holds bool) uint64 {
	if holds {
		return 1
	}
	return 0
}
