package eval

import (
	"math"

	"switchyard/api"
)

// compute returns the number that an operator makes of numbers. There are as
// many as it has to have.
func compute(op int, l []int64) int64 {
	switch op {
	case api.OpNeg:
		return difference(0, l[0])
	case api.OpAdd:
		return sum(l[0], l[1])
	case api.OpSub:
		return difference(l[0], l[1])
	case api.OpMul:
		return product(l[0], l[1])
	case api.OpDiv:
		return quotient(l[0], l[1])
	}
	need(l[1] != 0, api.ErrZero)
	return l[0] % l[1]
}

// A sum that wraps round goes to the wrong side of a, and so does a difference.

func sum(a, b int64) int64 {
	s := a + b
	need((s < a) == (b < 0), api.ErrOver)
	return s
}

func difference(a, b int64) int64 {
	d := a - b
	need((d > a) == (b < 0), api.ErrOver)
	return d
}

func product(a, b int64) int64 {
	switch a {
	case 0:
		return 0
	case -1: // the division below would wrap round, too
		return difference(0, b)
	}
	p := a * b
	need(p/a == b, api.ErrOver)
	return p
}

func quotient(a, b int64) int64 {
	need(b != 0, api.ErrZero)
	need(a != math.MinInt64 || b != -1, api.ErrOver)
	return a / b
}
