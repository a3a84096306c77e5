package code_test

import (
	"bytes"
	"math"
	"testing"

	"remontoire/api"
	"remontoire/code"
	"remontoire/inst"
)

// written holds an instruction against bits, all four ways.
func written(t *testing.T, i inst.Inst, word uint32) {
	t.Helper()
	if w, e := code.Word(i); w != word || e != api.OK {
		t.Fatalf("Word of %+v: %#x, %d, not %#x", i, w, e, word)
	}
	want := []byte{byte(word), byte(word >> 8)}
	if i.Form.Wide() {
		want = []byte{byte(word >> 16), byte(word >> 24), byte(word), byte(word >> 8)}
	}
	b, e := code.Bytes(i)
	if !bytes.Equal(b, want) || e != api.OK {
		t.Fatalf("Bytes of %+v: %x, %d, not %x", i, b, e, want)
	}
	if again, e := code.Of(word, i.Form.Wide()); again != i || e != api.OK {
		t.Fatalf("Of(%#x, %t): %+v, %d, not %+v", word, i.Form.Wide(), again, e, i)
	}
	if again, e := code.At(want, 0); again != i || e != api.OK {
		t.Fatalf("At(%x, 0): %+v, %d, not %+v", want, again, e, i)
	}
	if half := uint32(want[0]) | uint32(want[1])<<8; code.Begins(half) != i.Form.Wide() {
		t.Fatalf("Begins(%#x): %t, of %+v", half, code.Begins(half), i)
	}
}

func undefined(t *testing.T, word uint32, wide bool) {
	t.Helper()
	if i, e := code.Of(word, wide); e != api.ErrUndefined || i != (inst.Inst{}) {
		t.Fatalf("Of(%#x, %t): %+v, %d, not ErrUndefined", word, wide, i, e)
	}
}

// P4.1, P4.2: all right narrow instructions, and all words of 16 bits: each has the one that was written as it, or none.
func TestNarrow(t *testing.T) {
	all := map[uint32]inst.Inst{}
	for f := inst.LslImm; f <= inst.B; f++ {
		before := len(all)
		rightOnes(f, func(i inst.Inst) {
			word := expectedBits(i)
			if other, ok := all[word]; ok {
				t.Fatalf("%+v and %+v have the same bits", i, other)
			}
			all[word] = i
			written(t, i, word)
		})
		if len(all) == before {
			t.Errorf("no instruction of the form %d", f)
		}
	}
	for word := range uint32(1 << 16) {
		if _, ok := all[word]; !ok {
			undefined(t, word, false)
		}
	}
}

// P4.2: of a narrow one all 32 bits count.
func TestNarrowWithUpperBits(t *testing.T) {
	for word := range uint32(1 << 16) {
		for n := 16; n < 32; n += 5 {
			undefined(t, word|1<<n, false)
		}
	}
	for n := 16; n < 32; n++ {
		undefined(t, 0x18d1|1<<n, false)
		undefined(t, 1<<n, false)
	}
	undefined(t, 0xffff18d1, false)
}

// P4.1, P4.2: right instructions of each of the hundred forms, with fields of all kinds.
func TestEachForm(t *testing.T) {
	for f := inst.LslImm; f <= inst.BWide; f++ {
		someRight(f, 1500, func(i inst.Inst) { written(t, i, expectedBits(i)) })
	}
}

// P4.1, P4.2: each field of each wide form at all that it may be, beside some others.
func TestWideFieldByField(t *testing.T) {
	for f := inst.Movw; f <= inst.BWide; f++ {
		for _, field := range fieldsOf(f.Shape()) {
			someRight(f, 3, func(i inst.Inst) {
				for _, n := range candidates(field, f.Shape()) {
					r := rowOf(i)
					r[field] = n
					if changed := r.of(f); changed.Right() {
						written(t, changed, expectedBits(changed))
					}
				}
			})
		}
	}
}

// agree holds what Of tells against the chapter's table.
func agree(t *testing.T, word uint32, wide bool) {
	t.Helper()
	want, ok := expectedOf(word, wide)
	if !ok {
		undefined(t, word, wide)
		return
	}
	if i, e := code.Of(word, wide); i != want || e != api.OK {
		t.Fatalf("Of(%#x, %t): %+v, %d, not %+v", word, wide, i, e, want)
	}
}

// P4.2: words that are one or two bits beside those of right instructions.
func TestWideWordsBeside(t *testing.T) {
	for f := inst.Movw; f <= inst.BWide; f++ {
		someRight(f, 2, func(i inst.Inst) {
			word := expectedBits(i)
			for n := range 32 {
				agree(t, word^1<<n, true)
				for m := range n {
					agree(t, word^1<<n^1<<m, true)
				}
			}
		})
	}
}

// P4.2: any words, of wide ones' first halves and of others.
func TestWideWordsAny(t *testing.T) {
	d := dice(4)
	for upper := uint32(0xe800); upper <= 0xffff; upper++ {
		for range 3 {
			agree(t, upper<<16|uint32(d.below(1<<16)), true)
		}
	}
	for range 10000 {
		agree(t, d.word(), true)
	}
	for upper := range uint32(0xe800) {
		undefined(t, upper<<16|uint32(d.below(1<<16)), true)
		undefined(t, upper, true)
	}
}

// P4.1: Begins looks at the upper five of the low 16 bits.
func TestBegins(t *testing.T) {
	for half := range uint32(1 << 16) {
		want := half >= 0xe800
		for _, above := range []uint32{0, 1 << 16, 0xe8000000, 0xf8000000, 0xffff0000} {
			if code.Begins(above|half) != want {
				t.Fatalf("Begins(%#x): %t", above|half, !want)
			}
		}
	}
	for _, x := range []struct {
		half uint32
		want bool
	}{
		{0, false}, {0x18d1, false}, {0xdfff, false}, {0xe000, false}, {0xe7ff, false},
		{0xe800, true}, {0xefff, true}, {0xf000, true}, {0xf7ff, true}, {0xf800, true}, {0xffff, true},
		{0x10000, false}, {0xffffe7ff, false}, {0xffffffff, true}, {0x1f000, true},
	} {
		if code.Begins(x.half) != x.want {
			t.Errorf("Begins(%#x): %t", x.half, !x.want)
		}
	}
}

// P4.1: instructions that aren't right: ErrForm, and nothing beside it.
func TestWrong(t *testing.T) {
	refused := func(i inst.Inst) {
		t.Helper()
		if w, e := code.Word(i); w != 0 || e != api.ErrForm {
			t.Fatalf("Word of %+v: %#x, %d", i, w, e)
		}
		if b, e := code.Bytes(i); len(b) != 0 || e != api.ErrForm {
			t.Fatalf("Bytes of %+v: %x, %d", i, b, e)
		}
	}
	for _, f := range []inst.Form{0, -1, 101, 256, 1<<32 + 4, math.MinInt, math.MaxInt} {
		refused(inst.Inst{Form: f})
		refused(inst.Inst{Form: f, Rd: 1, Rn: 2, Rm: 3})
	}
	for f := inst.LslImm; f <= inst.BWide; f++ {
		someRight(f, 20, func(i inst.Inst) {
			for field := range fields {
				for _, n := range []int{-1, 1, 2, 3, 8, 13, 14, 15, 16, 32, 33, 256, 4096, 65536, 1 << 20, 1 << 24, 1<<32 + 1, math.MinInt, math.MaxInt} {
					r := rowOf(i)
					r[field] = n
					if changed := r.of(f); !changed.Right() {
						refused(changed)
					}
				}
			}
		})
	}
}

// What is told is new memory: no two answers share any.
func TestBytesAreNew(t *testing.T) {
	for _, i := range []inst.Inst{{Form: inst.AddReg, Rd: 1, Rn: 2, Rm: 3}, {Form: inst.BWide}} {
		one, _ := code.Bytes(i)
		kept := bytes.Clone(one)
		other, _ := code.Bytes(i)
		for n := range other[:cap(other)] {
			other[:cap(other)][n] ^= 0xff
		}
		if !bytes.Equal(one, kept) {
			t.Errorf("%x, not %x any more", one, kept)
		}
	}
}
