package asm

import (
	"remontoire/api"
	"remontoire/code"
	"remontoire/inst"
)

// ahead is how far behind its own place a branch that goes by 0 goes.
const ahead = 4

// Laid is a program as it is laid.
type Laid struct {
	Bytes  []byte
	At     []int
	Size   []int
	Rounds int
}

// Lay lays a program.
func Lay(l []Item) (Laid, api.Errno) {
	if !allRight(l) {
		return Laid{}, api.ErrForm
	}
	goals, e := goalsOf(l)
	if e != api.OK {
		return Laid{}, e
	}
	x := Laid{At: make([]int, len(l)), Size: firstSizes(l)}
	for again := true; again; again = x.widen(l, goals) {
		if !x.place(l) {
			return Laid{}, api.ErrBig
		}
		x.Rounds++
	}
	x.Bytes = x.bytes(l, goals)
	return x, api.OK
}

// Label is where a label stands.
func (x Laid) Label(l []Item, label int) (int, bool) {
	for i, at := range x.At {
		if i < len(l) && l[i] == Here(label) {
			return at, true
		}
	}
	return 0, false
}

func allRight(l []Item) bool {
	for _, item := range l {
		if !item.Right() {
			return false
		}
	}
	return true
}

// goalsOf is, of each Jump, which item marks its label; of the others 0.
func goalsOf(l []Item) ([]int, api.Errno) {
	marks, e := marksOf(l)
	if e != api.OK {
		return nil, e
	}
	goals := make([]int, len(l))
	for i, item := range l {
		if item.Kind != Jump {
			continue
		}
		goal, ok := marks[item.Label]
		if !ok {
			return nil, api.ErrLabel
		}
		goals[i] = goal
	}
	return goals, api.OK
}

// marksOf is, of each label that is marked, which item marks it.
func marksOf(l []Item) (map[int]int, api.Errno) {
	marks := map[int]int{}
	for i, item := range l {
		if item.Kind != Mark {
			continue
		}
		if _, ok := marks[item.Label]; ok {
			return nil, api.ErrLabel
		}
		marks[item.Label] = i
	}
	return marks, api.OK
}

// firstSizes is how many bytes items have with narrow Jumps; an Align's are known when it is placed.
func firstSizes(l []Item) []int {
	sizes := make([]int, len(l))
	for i, item := range l {
		switch item.Kind {
		case Code:
			sizes[i] = item.Inst.Bytes()
		case Jump:
			sizes[i] = branch(item.Cond, 0, false).Bytes()
		}
	}
	return sizes
}

// place puts the items one behind the other, with the sizes that they have, and tells whether there is room.
func (x Laid) place(l []Item) bool {
	at := 0
	for i := range l {
		if l[i].Kind == Align {
			x.Size[i] = missing(at, l[i].To)
		}
		x.At[i] = at
		at += x.Size[i]
		if at > api.MaxImage {
			return false
		}
	}
	return true
}

// missing is how many bytes are missing from an offset to the next multiple.
func missing(at, to int) int { return (to - at%to) % to }

// widen makes wide all Jumps that are narrow and don't reach, and tells whether there are any.
func (x Laid) widen(l []Item, goals []int) bool {
	some := false
	for i := range l {
		if l[i].Kind != Jump || x.wide(i) {
			continue
		}
		if narrow := x.jump(l[i].Cond, i, goals[i]); !narrow.Right() {
			x.Size[i] = branch(l[i].Cond, 0, true).Bytes()
			some = true
		}
	}
	return some
}

// wide tells whether a Jump is.
func (x Laid) wide(i int) bool { return x.Size[i] != inst.B.Size() }

// jump is the instruction from an item that is a Jump to its goal, right or not.
func (x Laid) jump(cond, from, goal int) inst.Inst {
	return branch(cond, x.At[goal]-x.At[from]-ahead, x.wide(from))
}

// branch is an instruction that goes so far, right or not.
func branch(cond, far int, wide bool) inst.Inst {
	switch {
	case cond == Always && wide:
		return inst.Inst{Form: inst.BWide, Imm: far}
	case cond == Always:
		return inst.Inst{Form: inst.B, Imm: far}
	case wide:
		return inst.Inst{Form: inst.BcondWide, Cond: cond, Imm: far}
	}
	return inst.Inst{Form: inst.Bcond, Cond: cond, Imm: far}
}

// bytes are the bytes of the program as it is laid at last.
func (x Laid) bytes(l []Item, goals []int) []byte {
	var b []byte
	for i, item := range l {
		switch item.Kind {
		case Code:
			b = with(b, item.Inst)
		case Jump:
			b = with(b, x.jump(item.Cond, i, goals[i]))
		case Align:
			for range x.Size[i] / inst.Nop.Size() {
				b = with(b, inst.Inst{Form: inst.Nop})
			}
		}
	}
	return b
}

// with puts the bytes of an instruction behind others.
// Those of a program that is laid are all right: a wide branch reaches farther than MaxImage, a narrow one was tried.
func with(b []byte, i inst.Inst) []byte {
	more, _ := code.Bytes(i)
	return append(b, more...)
}
