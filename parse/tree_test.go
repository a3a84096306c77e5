package parse_test

import (
	"fmt"
	"strings"
	"testing"

	"remontoire/parse"
)

// P10.1: the chapter's example, and the kinds by their numbers.
func TestExample(t *testing.T) {
	reads(t, "fn f(){x=1+2*3;}", "Program@0(Fn@0 f(Block@6(Set@7 x(Bin@10 +(Num@9 #1, Bin@12 *(Num@11 #2, Num@13 #3))))))")
	for i, kind := range []int{
		parse.Program, parse.Fn, parse.Param, parse.Block, parse.Let, parse.Var, parse.Arr, parse.Set, parse.Put, parse.Do, parse.If, parse.For, parse.Return,
		parse.Num, parse.Ref, parse.Index, parse.Call, parse.Un, parse.Bin,
	} {
		if kind != i+1 {
			t.Errorf("%s: %d", kinds[i+1], kind)
		}
	}
}

// P10.1: sources without a function: the program's offset is that of the end.
func TestNoFunction(t *testing.T) {
	reads(t, "", "Program@0")
	reads(t, " ", "Program@1")
	reads(t, "//x", "Program@3")
	reads(t, "\n// fn f(){}\n\n", "Program@14")
	n := parsed(t, "")
	if n.Kind != parse.Program || n.Text != "" || n.Num != 0 || len(n.List) != 0 {
		t.Error(dump(n))
	}
}

// P10.1: functions with and without export and a result, none, one and more of them.
func TestFunctions(t *testing.T) {
	reads(t, "fn f(){}", "Program@0(Fn@0 f(Block@6))")
	reads(t, "export fn f(){}", "Program@0(Fn@0 f #1(Block@13))")
	reads(t, "fn f()->u32{}", "Program@0(Fn@0 f #2(Block@11))")
	reads(t, "fn f()->u64{}", "Program@0(Fn@0 f #4(Block@11))")
	reads(t, "export fn f()->u32{}", "Program@0(Fn@0 f #3(Block@18))")
	reads(t, "export fn f()->u64{}", "Program@0(Fn@0 f #5(Block@18))")
	reads(t, "\n  export//\nfn g ( ) -> u64 {\n}\n", "Program@3(Fn@3 g #5(Block@28))")
	reads(t, " fn f(){}fn f(){} export fn g()->u32{}\n", "Program@1(Fn@1 f(Block@7), Fn@9 f(Block@15), Fn@18 g #3(Block@36))")
	reads(t, "fn _(){}export fn a_1(){}", "Program@0(Fn@0 _(Block@6), Fn@8 a_1 #1(Block@23))")
}

// P10.1: each kind of parameter, and several.
func TestParams(t *testing.T) {
	reads(t, "fn f(p:pub){}", "Program@0(Fn@0 f(Param@5 p #1, Block@11))")
	reads(t, "fn f(x:u32){}", "Program@0(Fn@0 f(Param@5 x #2, Block@11))")
	reads(t, "fn f(x:u64){}", "Program@0(Fn@0 f(Param@5 x #3, Block@11))")
	reads(t, "fn f(a:[16]){}", "Program@0(Fn@0 f(Param@5 a #4(Num@7 #16), Block@12))")
	reads(t, "fn f(a:[0]){}", "Program@0(Fn@0 f(Param@5 a #4(Num@7), Block@11))")
	reads(t, "fn f( a : [ 0xffffffff ] ) {}", "Program@0(Fn@0 f(Param@6 a #4(Num@10 #4294967295), Block@27))")
	reads(t, "fn f(p:pub,x:u32,z:u64,a:[4],p:pub)->u64{}",
		"Program@0(Fn@0 f #4(Param@5 p #1, Param@11 x #2, Param@17 z #3, Param@23 a #4(Num@25 #4), Param@29 p #1, Block@40))")
	reads(t, "export fn f(a:[1] , b:[2]){}", "Program@0(Fn@0 f #1(Param@12 a #4(Num@14 #1), Param@20 b #4(Num@22 #2), Block@26))")
	n := parsed(t, "fn f("+strings.Repeat("x:u32,", 999)+"x:pub){}")
	if l := n.List[0].List; len(l) != 1001 || l[998].Num != 2 || l[999].Num != 1 || l[999].At != 5+6*999 || l[1000].Kind != parse.Block {
		t.Errorf("%d in the list of a function of 1000 parameters", len(l))
	}
}

// P10.1: each statement.
func TestStatements(t *testing.T) {
	inside(t, "", "")
	inside(t, "let x=1;", "Let@7 x(Num@13 #1)")
	inside(t, "var y = x ;", "Var@7 y(Ref@15 x)")
	inside(t, "arr a[8];", "Arr@7 a #8")
	inside(t, " arr a [ 0 ] ;", "Arr@8 a")
	inside(t, "x=y;", "Set@7 x(Ref@9 y)")
	inside(t, "a[1]=2;", "Put@7 a(Num@9 #1, Num@12 #2)")
	inside(t, "a [ i ] = b [ j ] ;", "Put@7 a(Ref@11 i, Index@17 b(Ref@21 j))")
	inside(t, "f();", "Do@7 f")
	inside(t, "f(1);", "Do@7 f(Num@9 #1)")
	inside(t, "f ( 1 , x,y ) ;", "Do@7 f(Num@11 #1, Ref@15 x, Ref@17 y)")
	inside(t, "return 0;", "Return@7(Num@14)")
	inside(t, "return x;return y;", "Return@7(Ref@14 x), Return@16(Ref@23 y)")
}

// P10.1: if with and without else, for, and blocks within blocks.
func TestBlocks(t *testing.T) {
	inside(t, "if x{}", "If@7(Ref@10 x, Block@11)")
	inside(t, "if(x){}", "If@7(Ref@10 x, Block@12)")
	inside(t, "if x{}else{}", "If@7(Ref@10 x, Block@11, Block@17)")
	inside(t, "if 1{f();g();}else{h();}", "If@7(Num@10 #1, Block@11(Do@12 f, Do@16 g), Block@25(Do@26 h))")
	inside(t, "if x{}y();", "If@7(Ref@10 x, Block@11), Do@13 y")
	inside(t, "if x{}if y{}else{}", "If@7(Ref@10 x, Block@11), If@13(Ref@16 y, Block@17, Block@23)")
	inside(t, "if x{if y{}}else{}", "If@7(Ref@10 x, Block@11(If@12(Ref@15 y, Block@16)), Block@23)")
	inside(t, "if x{if y{}else{}}", "If@7(Ref@10 x, Block@11(If@12(Ref@15 y, Block@16, Block@22)))")
	inside(t, "if x<y{}", "If@7(Bin@11 <(Ref@10 x, Ref@12 y), Block@13)")
	inside(t, "for i in 0..9{}", "For@7 i(Num@16, Num@19 #9, Block@20)")
	inside(t, "for i in a + 1 .. b { x = i ; } y();", "For@7 i(Bin@18 +(Ref@16 a, Num@20 #1), Ref@25 b, Block@27(Set@29 x(Ref@33 i))), Do@39 y")
	inside(t, "for i in 0..1{for j in i..2{}}", "For@7 i(Num@16, Num@19 #1, Block@20(For@21 j(Ref@30 i, Num@33 #2, Block@34)))")
}

// P10.1: each operand; parentheses are no node.
func TestOperands(t *testing.T) {
	inside(t, "x=0;", "Set@7 x(Num@9)")
	inside(t, "x=4294967295;", "Set@7 x(Num@9 #4294967295)")
	inside(t, "x=0x00ff;", "Set@7 x(Num@9 #255)")
	inside(t, "x=y_1;", "Set@7 x(Ref@9 y_1)")
	inside(t, "x=a[0];", "Set@7 x(Index@9 a(Num@11))")
	inside(t, "x= a [ b[1+i] ] ;", "Set@7 x(Index@10 a(Index@14 b(Bin@17 +(Num@16 #1, Ref@18 i))))")
	inside(t, "x=f();", "Set@7 x(Call@9 f)")
	inside(t, "x=f(y);", "Set@7 x(Call@9 f(Ref@11 y))")
	inside(t, "x=f(1,g(),-h(2,3));", "Set@7 x(Call@9 f(Num@11 #1, Call@13 g, Un@17 -(Call@18 h(Num@20 #2, Num@22 #3))))")
	inside(t, "x=~y;", "Set@7 x(Un@9 ~(Ref@10 y))")
	inside(t, "x=-1;", "Set@7 x(Un@9 -(Num@10 #1))")
	inside(t, "x=~-~-y;", "Set@7 x(Un@9 ~(Un@10 -(Un@11 ~(Un@12 -(Ref@13 y)))))")
	inside(t, "x=--1;", "Set@7 x(Un@9 -(Un@10 -(Num@11 #1)))")
	inside(t, "x=(1);", "Set@7 x(Num@10 #1)")
	inside(t, "x=( ( y ) );", "Set@7 x(Ref@13 y)")
	inside(t, "x=(~(y));", "Set@7 x(Un@10 ~(Ref@12 y))")
	inside(t, "x=(a[(f((1)))]);", "Set@7 x(Index@10 a(Call@13 f(Num@16 #1)))")
	inside(t, "x=(1+2);", "Set@7 x(Bin@11 +(Num@10 #1, Num@12 #2))")
}

// P10.1: expressions at each place where one stands; names may be such as only begin, or end, with a word.
func TestPlaces(t *testing.T) {
	for body, at := range map[string]int{"let x=1|2;": 14, "var x=1|2;": 14, "x=1|2;": 10, "return 1|2;": 15, "f(1|2);": 10} {
		n := parsed(t, "fn f(){"+body+"}").List[0].List[0].List[0]
		if len(n.List) != 1 || dump(n.List[0]) != fmt.Sprintf("Bin@%d |(Num@%d #1, Num@%d #2)", at, at-1, at+1) {
			t.Errorf("%q: %s", body, dump(n))
		}
	}
	inside(t, "a[1|2]=3|4;", "Put@7 a(Bin@10 |(Num@9 #1, Num@11 #2), Bin@15 |(Num@14 #3, Num@16 #4))")
	inside(t, "if 1|2{}", "If@7(Bin@11 |(Num@10 #1, Num@12 #2), Block@13)")
	inside(t, "for i in 1|2..3|4{}", "For@7 i(Bin@17 |(Num@16 #1, Num@18 #2), Bin@22 |(Num@21 #3, Num@23 #4), Block@24)")
	inside(t, "f(1|2,3|4);", "Do@7 f(Bin@10 |(Num@9 #1, Num@11 #2), Bin@14 |(Num@13 #3, Num@15 #4))")
	inside(t, "lets=ins;", "Set@7 lets(Ref@12 ins)")
	inside(t, "let let_=if1;", "Let@7 let_(Ref@16 if1)")
	inside(t, "for inn in in_..u33{}", "For@7 inn(Ref@18 in_, Ref@23 u33, Block@26)")
	inside(t, "returns(u3,pubs);", "Do@7 returns(Ref@15 u3, Ref@18 pubs)")
	inside(t, "if ifs{}else{elses();}", "If@7(Ref@10 ifs, Block@13, Block@19(Do@20 elses))")
	inside(t, "letx=1;", "Set@7 letx(Num@12 #1)")
	reads(t, "fn fns(exports:pub){}", "Program@0(Fn@0 fns(Param@7 exports #1, Block@19))")
	reads(t, "fn select(lo:u32)->u64{}", "Program@0(Fn@0 select #4(Param@10 lo #2, Block@22))")
}

// P10.1: whatever parts tokens: trees are the same, and offsets those of the tokens.
func TestBlanks(t *testing.T) {
	n := parsed(t, "export fn f(a:[4],p:pub)->u32{if p<a[1]{x=~1;}else{}for i in 0..p{g(i,2);}return-p;}")
	src := " export\n\tfn\rf //x\n ( a : [ 4 ] , p : pub ) -> u32 { if p < a [ 1 ] { x = ~ 1 ; } else { } for i in 0 .. p { g ( i , 2 ) ; } return - p ; } // }"
	m := parsed(t, src)
	if !parse.Same(n, m) || placeless(n) != placeless(m) {
		t.Errorf("%s, not %s", placeless(m), placeless(n))
	}
	for _, x := range []struct {
		n    parse.Node
		kind int
		text string
	}{
		{m, parse.Program, "export"}, {m.List[0], parse.Fn, "export"}, {m.List[0].List[0], parse.Param, "a :"}, {m.List[0].List[0].List[0], parse.Num, "[ 4"}, {m.List[0].List[1], parse.Param, "p :"},
		{m.List[0].List[2], parse.Block, "{ if"}, {m.List[0].List[2].List[0], parse.If, "if"}, {m.List[0].List[2].List[0].List[0], parse.Bin, "<"}, {m.List[0].List[2].List[2].List[0], parse.Un, "- p"},
	} {
		if x.n.Kind != x.kind || x.n.At != strings.Index(src, x.text) {
			t.Errorf("%s, not at %q", dump(x.n), x.text)
		}
	}
}

// P10.1: Count of trees.
func TestCount(t *testing.T) {
	for src, want := range map[string]int{
		"": 1, "fn f(){}": 3, "fn f(){}fn f(){}": 5, "fn f(a:pub){}": 4, "fn f(a:[1]){}": 5, "fn f(){x=1+2*3;}": 9, "fn f(){x=((1));}": 5, "fn f(){x=~-1;}": 7,
		"fn f(){arr a[1];}": 4, "fn f(){a[1]=2;}": 6, "fn f(){f(1,2,3);}": 7, "fn f(){if 1{}else{}}": 7, "fn f(){if 1{}}": 6, "fn f(){for i in 0..1{return 2;}}": 9, filled(1000): 1000, filled(1001): 1001,
	} {
		n := parsed(t, src)
		if got := parse.Count(n); got != want || len(all(n)) != want {
			t.Errorf("%.40q: %d, not %d", src, got, want)
		}
	}
	if got := parse.Count(parse.Node{}); got != 1 {
		t.Errorf("a node that isn't one: %d", got)
	}
	if got := parse.Count(parse.Node{Kind: -1, List: []parse.Node{{Kind: 99}, {List: make([]parse.Node, 7)}}}); got != 10 {
		t.Errorf("nodes that aren't any: %d", got)
	}
}

// P10.1: Word of each of the thirteen, and of what only looks like one.
func TestWord(t *testing.T) {
	if len(words) != 13 {
		t.Error(len(words))
	}
	for _, w := range words {
		if !parse.Word(w) {
			t.Error(w)
		}
		for _, x := range []string{w + "s", w + "_", w + " ", " " + w, "_" + w, w[1:], w[:len(w)-1], strings.ToUpper(w), w + w, w + "\x00"} {
			if parse.Word(x) {
				t.Errorf("%q", x)
			}
		}
	}
	for _, x := range []string{"", "x", "select", "long", "lo", "hi", "wide", "u8", "u16", "u128", "i32", "while", "fun", "func", "0", "->", "..", "{", "exports", "import"} {
		if parse.Word(x) {
			t.Errorf("%q", x)
		}
	}
}
