package parse_test

import (
	"slices"
	"strconv"
	"strings"
	"testing"

	"remontoire/api"
	"remontoire/lex"
)

// P10.1: each error of layer 9 with its offset, also behind what can't follow by the grammar, and ahead of it.
func TestLexErrors(t *testing.T) {
	long := strings.Repeat("a", api.MaxName+1)
	for text, want := range map[string]api.Errno{"!": api.ErrChar, "A": api.ErrChar, "0x": api.ErrNumber, "4294967296": api.ErrNumber, long: api.ErrName} {
		refused(t, text, want, 0)
		refused(t, "fn f(){x="+text+";}", want, 9)
		refused(t, "fn if "+text, want, 6)
		refused(t, "x y z "+text, want, 6)
		refused(t, "fn f(){x=1<2<3;} "+text+" !", want, 17)
		refused(t, "fn f(){x="+strings.Repeat("(", 100)+text, want, 109)
		refused(t, filled(api.MaxNodes+5)+" "+text, want, len(filled(api.MaxNodes+5))+1)
		refused(t, text+" x", want, 0)
	}
	refused(t, strings.Repeat(" ", api.MaxSource+1), api.ErrSize, 0)
	refused(t, "x"+strings.Repeat("!", api.MaxSource), api.ErrSize, 0)
	refused(t, strings.Repeat("fn f(){}", api.MaxSource/8)+"x", api.ErrSize, 0)
	reads(t, strings.Repeat(" ", api.MaxSource), "Program@65536")
}

// P10.1: what can't follow, place by place; a trailing end is a source that is cut there.
func TestSyntax(t *testing.T) {
	for src, at := range map[string]int{
		"x": 0, "1": 0, "{": 0, "}": 0, ";": 0, "let": 0, "export": 6, "export export": 7, "export x": 7, "export{": 6, "fn": 2, "fn 1": 3, "fn(": 2, "fn f": 4, "fn f{": 4, "fn f g": 5,
		"fn f(": 5, "fn f(1": 5, "fn f(,": 5, "fn f(x": 6, "fn f(x)": 6, "fn f(x,": 6, "fn f(x y": 7, "fn f(x:": 7, "fn f(x:)": 7, "fn f(x:1": 7, "fn f(x:u8": 7, "fn f(x:fn": 7, "fn f(x:pub": 10, "fn f(x:pub x": 11,
		"fn f(x:pub,": 11, "fn f(x:pub,)": 11, "fn f(x:pub,,": 11, "fn f(x:pub,pub:": 11, "fn f(x:pub u32": 11, "fn f(a:[": 8, "fn f(a:[]": 8, "fn f(a:[x": 8, "fn f(a:[-1": 8, "fn f(a:[1": 9, "fn f(a:[1)": 9, "fn f(a:[1,": 9, "fn f(a:[1+1": 9, "fn f(a:[1][": 10, "fn f(a:1]": 7,
		"fn f(u32:u32": 5, "fn f()": 6, "fn f();": 6, "fn f()x": 6, "fn f()->": 8, "fn f()->x": 8, "fn f()->[": 8, "fn f()->pub": 8, "fn f()->{": 8, "fn f()->u32": 11, "fn f()->u32;": 11, "fn f()->u32->": 11, "fn f()->u32 u64": 12,
		"fn f(){": 7, "fn f()(": 6, "fn f(){}}": 8, "fn f(){};": 8, "fn f(){}x": 8, "fn f(){}{": 8, "fn f(){}fn": 10, "fn f(){}export": 14, "fn f(){}->": 8, "fn f(){fn": 7, "fn f(){{": 7,
	} {
		refused(t, src, api.ErrSyntax, at)
	}
	refused(t, "fn f()- >", api.ErrChar, 8)
}

// P10.1: what can't follow within a block.
func TestStatementSyntax(t *testing.T) {
	for body, at := range map[string]int{
		";": 0, "1": 0, "(": 0, "(1);": 0, "{": 0, "-": 0, "else": 0, "else{": 0, "in": 0, "pub": 0, "u32": 0, "u64": 0, "fn": 0, "export": 0, "[": 0, "=": 0,
		"let": 3, "let 1": 4, "let if": 4, "let=": 3, "let x": 5, "let x;": 5, "let x(": 5, "let x[": 5, "let x==1": 5, "let x 1": 6, "let x=": 6, "let x=;": 6, "let x=1": 7, "let x=1}": 7, "let x=1,": 7, "let x=1 y": 8, "let x=y=": 7, "let x:": 5,
		"var": 3, "var 1": 4, "var u32": 4, "var x": 5, "var x;": 5, "var x=": 6, "var x=;": 6, "var x=1": 7, "var x=1)": 7, "var x=1 1": 8,
		"arr": 3, "arr 1": 4, "arr for": 4, "arr a": 5, "arr a;": 5, "arr a=": 5, "arr a(": 5, "arr a[": 6, "arr a[]": 6, "arr a[x": 6, "arr a[(": 6, "arr a[1": 7, "arr a[1;": 7, "arr a[1+": 7, "arr a[1]": 8, "arr a[1]=": 8, "arr a[1]}": 8,
		"x": 1, "x;": 1, "x}": 1, "x 1": 2, "x y": 2, "x+": 1, "x==": 1, "x->": 1, "x{": 1, "x=": 2, "x=;": 2, "x=}": 2, "x==1": 1, "x=1": 3, "x=1}": 3, "x=1=": 3, "x=1)": 3, "x=1]": 3, "x=1{": 3, "x=1:": 3, "x=1..": 3, "x=1->": 3,
		"x=1 2": 4, "x=1(": 3, "x=1[": 3, "x=1~": 3, "x=let": 2, "x=fn": 2, "x=in": 2, "x=u32": 2, "x=u32(1)": 2,
		"a[": 2, "a[]": 2, "a[;": 2, "a[1": 3, "a[1;": 3, "a[1,": 3, "a[1)": 3, "a[1]": 4, "a[1];": 4, "a[1](": 4, "a[1][": 4, "a[1]==": 4, "a[1]=": 5, "a[1]=;": 5, "a[1]=2": 6, "a[1]=2,": 6, "a[1]=2]": 6,
		"f(": 2, "f(;": 2, "f(,": 2, "f(if": 2, "f(1": 3, "f(1;": 3, "f(1]": 3, "f(1 2": 4, "f(1,": 4, "f(1,)": 4, "f(1,,": 4, "f(1,;": 4, "f()": 3, "f()}": 3, "f()=": 3, "f()+": 3, "f()(": 3, "f(1)": 4, "f(1)x": 4, "f(a:": 3,
		"return": 6, "return;": 6, "return}": 6, "return return": 7, "return 1": 8, "return 1}": 8, "return 1,": 8, "return 1 2": 9, "return x=": 8,
		"if": 2, "if{": 2, "if;": 2, "if)": 2, "if if": 3, "if 1": 4, "if 1;": 4, "if 1=": 4, "if 1)": 4, "if 1 x": 5, "if 1 else": 5, "if (1)": 6, "if (1": 5, "if(1 {": 5, "if 1{": 5, "if 1{}": 6, "if 1{};": 6, "if 1{})": 6, "if 1{}}}": 7, "if 1{}else": 10, "if 1{}else if": 11, "if 1{}else;": 10, "if 1{}else x": 11, "if 1{}else{": 11, "if 1{}else{}else": 12, "if 1{}else{}": 12, "if f(){": 7, "if 1{x}": 6,
		"for": 3, "for 1": 4, "for(": 3, "for in": 4, "for i": 5, "for i=": 5, "for i 0": 6, "for i..": 5, "for i in": 8, "for i in..": 8, "for i in{": 8, "for i in 0": 10, "for i in 0{": 10, "for i in 0,": 10, "for i in 0 1": 11, "for i in 0..": 12, "for i in 0..{": 12, "for i in 0....": 12, "for i in 0..1": 13, "for i in 0..1;": 13, "for i in 0..1..": 13, "for i in 0..1 2": 14, "for i in 0..1{": 14, "for i in 0..1{}": 15, "for i in 0..1{}else": 15, "for i in 0..1{};": 15, "for a[1]": 5,
	} {
		refusedInside(t, body, api.ErrSyntax, at)
	}
}

// P10.1: what can't follow within an expression.
func TestExpressionSyntax(t *testing.T) {
	for expr, at := range map[string]int{
		"": 0, ")": 0, "()": 1, "(": 1, "(1": 2, "(1;": 2, "(1]": 2, "(1,2)": 2, "(1 2)": 3, "((1)": 4, "(;": 1, "(if": 1, "1+": 2, "1+)": 2, "1+;": 2, "1+else": 2, "1+*2": 2, "1++2": 2, "1*/2": 2, "1<=2": 2, "1< <2": 3, "1<< <2": 4, "1===2": 3, "1&&2": 2, "1||2": 2, "1^^2": 2,
		"+1": 0, "*1": 0, "==1": 0, "<1": 0, "<<1": 0, "/1": 0, "%1": 0, "&1": 0, "|1": 0, "^1": 0, "~": 1, "-": 1, "~)": 1, "-;": 1, "~~": 2, "-~return": 2, "~*1": 1, "-+1": 1, "1~2": 1, "1 -": 3, "->1": 0, "1->2": 1, "1=2": 1, "..": 0, "1:2": 1, "1,2": 1, "{": 0, "[": 0, "[1]": 0,
		"a[": 2, "a[]": 2, "a[;": 2, "a[1": 3, "a[1;": 3, "a[1)": 3, "a[1,2]": 3, "a[1][2]": 4, "a[1](2)": 4, "a[1]b": 4, "f(": 2, "f(1": 3, "f(1;": 3, "f(1]": 3, "f(,": 2, "f(1,": 4, "f(1,)": 4, "f(1,,2)": 4, "f(1 2)": 4, "f(1)(2)": 4, "f(1)[2]": 4, "f()1": 3, "f(x:u32)": 3, "(a)[1]": 3, "(f)(1)": 3, "(1)2": 3, "1 x": 2, "x 1": 2, "x y": 2, "1(2)": 1, "1[2]": 1, "export": 0, "fn": 0, "pub": 0, "u64(1)": 0,
	} {
		refusedInside(t, "x= "+expr, api.ErrSyntax, 3+at)
		refusedInside(t, "if 0{return 0;}else{y=1-a["+expr, api.ErrSyntax, 26+at)
		refusedInside(t, "return-("+expr, api.ErrSyntax, 8+at)
	}
}

// P10.1: a word of the thirteen, where a name must stand, and where a name may stand.
func TestWordsForNames(t *testing.T) {
	for _, w := range words {
		refused(t, "fn "+w+"(){}", api.ErrSyntax, 3)
		refused(t, "fn f("+w+":pub){}", api.ErrSyntax, 5)
		refused(t, "fn f(x:pub,"+w+":pub){}", api.ErrSyntax, 11)
		for _, of := range []string{"let ", "var ", "arr ", "for ", "x=", "x=1+", "x=~", "x=(", "a[", "f(", "f(1,", "if ", "for i in ", "for i in 0..", "return ", "let x="} {
			refusedInside(t, of+w+";}", api.ErrSyntax, len(of))
			refusedInside(t, of+w+"(1);}", api.ErrSyntax, len(of))
			refusedInside(t, of+w+"[1]=1;}", api.ErrSyntax, len(of))
		}
		inside(t, "x="+w+"_;", "Set@7 x(Ref@9 "+w+"_)")
		inside(t, "_"+w+"=1;", "Set@7 _"+w+"(Num@"+strconv.Itoa(9+len(w))+" #1)")
	}
}

// rights are right sources that have all of the grammar.
var rights = []string{
	"", "fn f(){}", "export fn f()->u64{}fn g(a:[4],p:pub,x:u32,y:u64)->u32{}", "fn f(a:[1]){}export fn g(a:pub,b:[2]){}",
	"fn f(){let a=1;var b=a;arr c[2];a=b;c[1]=a;f();f(1);f(1,2);return a;}",
	"fn f(){if a{}if b{x=1;}else{y=2;}for i in 0..a{for j in i..4{}}}fn g(){}",
	"fn f(){x=1|2^3&4==5<<6>>7<<<8+9-1*2/3%4;y=1<2|3;}",
	"fn f(){x=~-1;y=-(a)+(b*(c));z=a[1+i]-f(1,(x),~2)*g();}",
	"fn f(){a[b[c[1]]]=f(g(h()),a[1]);if(x){if f(1)==2{}}else{}}",
}

// more are tokens of each kind.
var more = slices.Concat(words, binSigns(), []string{"x", "1", "0x10", "~", "->", "..", "(", ")", "{", "}", "[", "]", ",", ";", ":", "=", "!"})

// asModel holds the error of a source against the model's, and tells it.
func asModel(t *testing.T, src string) api.Errno {
	t.Helper()
	e, at := model(src)
	if e == api.OK {
		parsed(t, src)
	} else {
		refused(t, src, e, at)
	}
	return e
}

// texts are a source's tokens as they stand, the end too.
func texts(t *testing.T, src string) []string {
	t.Helper()
	l, e, _ := lex.Tokens([]byte(src))
	if e != api.OK {
		t.Fatalf("%q: %d", src, e)
	}
	var all []string
	for _, x := range l {
		all = append(all, x.Text)
	}
	return all
}

// P10.1: one token too few, one too many, and another one, at each place of right sources, against the model.
func TestOneToken(t *testing.T) {
	met := map[api.Errno]int{}
	for _, src := range rights {
		if e := asModel(t, src); e != api.OK {
			t.Errorf("%q: %d", src, e)
		}
		l := texts(t, src)
		for i := range l {
			met[asModel(t, strings.Join(l[:i], " "))]++
			if i+1 < len(l) {
				met[asModel(t, strings.Join(slices.Concat(l[:i], l[i+1:]), " "))]++
			}
			for _, x := range more {
				met[asModel(t, strings.Join(slices.Concat(l[:i], []string{x}, l[i:]), " "))]++
				met[asModel(t, strings.Join(slices.Concat(l[:i], []string{x}, l[min(i+1, len(l)-1):]), " "))]++
			}
		}
	}
	if met[api.OK] < 500 || met[api.ErrSyntax] < 10000 || met[api.ErrChar] < 100 {
		t.Error(met)
	}
}

// P10.1: tokens as the dice fall, and right sources with some of their tokens otherwise, against the model.
func TestAnyTokens(t *testing.T) {
	d := dice(10)
	for range 20000 {
		l := texts(t, rights[d.below(len(rights))])
		for range d.below(4) {
			i := d.below(len(l))
			switch j := min(i+d.below(6), len(l)); d.below(3) {
			case 0:
				l = slices.Delete(l, i, j)
			case 1:
				l = slices.Insert(l, i, l[i:j]...)
			case 2:
				l = slices.Insert(l, i, more[d.below(len(more))])
			}
			l = append(l, "")
		}
		asModel(t, strings.Join(l, " "))
	}
	for range 5000 {
		var l []string
		for range d.below(30) {
			l = append(l, more[d.below(len(more)-1)])
		}
		asModel(t, strings.Join(l, " "))
		asModel(t, "fn f(){"+strings.Join(l, " "))
		asModel(t, "fn f(){x="+strings.Join(l, " "))
	}
}

// P10.1: bytes that are any at all.
func TestAnyBytes(t *testing.T) {
	d := dice(11)
	const some = "fnxu32iegtp(){}[];:=+-*<&~.,>| \n01"
	for range 20000 {
		b := make([]byte, d.below(40))
		for i := range b {
			b[i] = some[d.below(len(some))]
			if d.below(100) == 0 {
				b[i] = byte(d.below(256))
			}
		}
		asModel(t, string(b))
		asModel(t, "fn f(){"+string(b))
	}
}
