package term

import "math"

// span is from where to where words are, both ends too. Its ends have more bits than words, so that sums and products of them can be held against the greatest word.
type span struct{ low, high uint64 }

// Range is from where to where a term's value is.
func Range(t Term, low, high []uint32) (uint32, uint32) {
	s := spanOf(t, low, high)
	return uint32(s.low), uint32(s.high)
}

func spanOf(t Term, low, high []uint32) span {
	switch t.Op {
	case Const:
		return span{uint64(t.N), uint64(t.N)}
	case Var:
		return span{uint64(placed(low, t.N, 0)), uint64(placed(high, t.N, math.MaxUint32))}
	}
	var spans [2]span
	for i := range min(len(t.List), len(spans)) {
		spans[i] = spanOf(t.List[i], low, high)
	}
	return spans[0].joined(t.Op, spans[1])
}

// joined is the span of what an operator makes of words of two spans.
func (s span) joined(op int, with span) span {
	a, b, c, d := s.low, s.high, with.low, with.high
	switch op {
	case And:
		return span{0, min(b, d)}
	case Eq, Lt:
		return span{0, 1}
	case Shr:
		return span{0, b}
	case Add:
		return unlessPast(a+c, b+d)
	case Sub:
		if a >= d {
			return span{a - d, b - c}
		}
	case Mul:
		return unlessPast(a*c, b*d)
	case Div:
		return span{a / max(d, 1), b / max(c, 1)}
	case Mod:
		return span{0, min(b, max(d, 1)-1)}
	}
	return anything()
}

// unlessPast is a span of two ends; if the upper one is no word, what has it may have wrapped round.
func unlessPast(low, high uint64) span {
	if high > math.MaxUint32 {
		return anything()
	}
	return span{low, high}
}

// anything is the span of all words.
func anything() span { return span{0, math.MaxUint32} }
