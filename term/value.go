package term

import "math/bits"

// Eval is a term's value.
func Eval(t Term, words []uint32) (uint32, bool) {
	switch t.Op {
	case Const:
		return t.N, true
	case Var:
		return placed(words, t.N, 0), true
	}
	var values [2]uint32
	for i, x := range t.List {
		v, ok := Eval(x, words)
		if !ok {
			return 0, false
		}
		if i < len(values) {
			values[i] = v
		}
	}
	return valueOf(t.Op, values[0], values[1])
}

// valueOf is the value that an operator makes of those of its list, if it makes one.
func valueOf(op int, x, y uint32) (uint32, bool) {
	switch op {
	case Not:
		return ^x, true
	case Neg:
		return -x, true
	case Or:
		return x | y, true
	case Xor:
		return x ^ y, true
	case And:
		return x & y, true
	case Eq:
		return told(x == y), true
	case Lt:
		return told(x < y), true
	case Add:
		return x + y, true
	case Sub:
		return x - y, true
	case Mul:
		return x * y, true
	case Shl, Shr, Rol:
		return shifted(op, x, y%32), true
	case Div, Mod:
		return divided(op, x, y)
	}
	return 0, false
}

func told(holds bool) uint32 {
	if holds {
		return 1
	}
	return 0
}

func shifted(op int, x, by uint32) uint32 {
	switch op {
	case Shl:
		return x << by
	case Shr:
		return x >> by
	}
	return bits.RotateLeft32(x, int(by))
}

// divided has no value, where it would be divided by nought: that traps.
func divided(op int, x, y uint32) (uint32, bool) {
	switch {
	case y == 0:
		return 0, false
	case op == Div:
		return x / y, true
	}
	return x % y, true
}

// Fold is a term of no more nodes.
func Fold(t Term) Term {
	if len(t.List) == 0 {
		return t
	}
	t = rebuilt(t, Fold)
	for _, x := range t.List {
		if x.Op != Const {
			return t
		}
	}
	// All that it hangs on are numbers: no word is asked for.
	if v, ok := Eval(t, nil); ok {
		return Of(v)
	}
	return t
}
