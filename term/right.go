package term

import (
	"math"

	"remontoire/api"
)

// lastVar is the greatest number of a variable.
const lastVar = 255

// Right tells whether a term may be. It need not ask how deep a term is: one of few enough nodes isn't deeper than they are many.
func (t Term) Right() bool {
	left := api.MaxNodes
	return t.rightWithin(&left)
}

// rightWithin tells whether a term is right and has no more nodes than are left, and takes them from these. It goes no further than they last:
// as lists may be shared, a term can have more nodes than anybody could count.
func (t Term) rightWithin(left *int) bool {
	*left--
	if *left < 0 || !t.fits() {
		return false
	}
	for _, x := range t.List {
		if !x.rightWithin(left) {
			return false
		}
	}
	return true
}

// fits tells whether a node may be, whatever the terms in its list are.
func (t Term) fits() bool { return t.N <= greatest(t.Op) && len(t.List) == needs(t.Op) }

// greatest is the greatest N that goes with an operator.
func greatest(op int) uint32 {
	switch op {
	case Const:
		return math.MaxUint32
	case Var:
		return lastVar
	}
	return 0
}

// needs is how many terms an operator needs; of what is no operator it is so many as no list has.
func needs(op int) int {
	switch {
	case op == Const || op == Var:
		return 0
	case op == Not || op == Neg:
		return 1
	case op >= Or && op <= Mod:
		return 2
	}
	return -1
}
