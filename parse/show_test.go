package parse_test

import (
	"strings"
	"testing"

	"remontoire/api"
	"remontoire/parse"
)

// shows holds a source's tree, shown, against a text, that is read again.
func shows(t *testing.T, src, want string) {
	t.Helper()
	n := parsed(t, src)
	if got := again(t, n); got != want {
		t.Errorf("%.200q: %.200q, not %.200q", src, got, want)
	}
	bare(t, n, want)
}

// P10.2: each kind of node, in sources that are as short as they may be: they are shown as they stand.
func TestShowShort(t *testing.T) {
	for _, src := range []string{
		"", "fn f(){}", "export fn f(){}", "fn f()->u32{}", "fn f()->u64{}", "export fn f()->u32{}export fn g()->u64{}fn f(){}",
		"fn f(p:pub){}", "fn f(x:u32){}", "fn f(x:u64){}", "fn f(a:[16]){}", "fn f(a:[0],b:[4294967295],p:pub,x:u32,y:u64)->u32{}",
		"fn f(){let x=1;}", "fn f(){var y=x;}", "fn f(){arr a[8];}", "fn f(){x=0;}", "fn f(){a[1]=2;}", "fn f(){g();}", "fn f(){g(1);}", "fn f(){g(1,x,3);}", "fn f(){return 1;}", "fn f(){return x;return y;}",
		"fn f(){if x{}}", "fn f(){if x{}else{}}", "fn f(){if 1{y=2;}else{if z{}else{g();}}y=3;}", "fn f(){if x{}if y{}else{}}", "fn f(){for i in 0..9{}}", "fn f(){for i in a..b{for j in a[1]..f(2){}}}",
		"fn f(){x=4294967295;}", "fn f(){x=a[b[1]];}", "fn f(){x=g();}", "fn f(){x=g(h(1),y,2);}", "fn f(){x=(~y);}", "fn f(){x=(-1);}", "fn f(){x=(~(-(~(-y))));}",
		"fn f(){return(-1);}", "fn f(){if(~x){}}", "fn f(){for i in(-1)..(-2){}}", "fn f(){let x=(-1);var y=(1+2);a[(1+2)]=(3+4);g((1+2),(-x));return(1<2);}", "fn f(){x=a[(-1)];y=g((-1));}",
		"fn f(){if(a<b){}else{}for i in(a+1)..(b-1){}}", "fn _(){_=_0;__();}",
	} {
		shows(t, src, src)
	}
	for _, s := range binSigns() {
		shows(t, "fn f(){x=(1"+s+"y);}", "fn f(){x=(1"+s+"y);}")
		shows(t, "fn f(){x=((-1)"+s+"(~y));}", "fn f(){x=((-1)"+s+"(~y));}")
		shows(t, "fn f(){x=(-(1"+s+"y));}", "fn f(){x=(-(1"+s+"y));}")
	}
}

// P10.2: what a source has beside its tree isn't shown: blanks, remarks, parentheses that aren't needed, the digits of numbers; and each Bin and Un is in parentheses.
func TestShowOthers(t *testing.T) {
	shows(t, " // x\n", "")
	shows(t, " export\tfn //\n f ( a : [ 0x10 ] , p : pub ) -> u32 { } ", "export fn f(a:[16],p:pub)->u32{}")
	shows(t, "fn f(){x=007;y=0xff;arr a[0x8];z=((((1))));w=(y);}", "fn f(){x=7;y=255;arr a[8];z=1;w=y;}")
	shows(t, "fn f(){x=1+2*3;}", "fn f(){x=(1+(2*3));}")
	shows(t, "fn f(){x=1*2+3;}", "fn f(){x=((1*2)+3);}")
	shows(t, "fn f(){x=(1+2)*3;}", "fn f(){x=((1+2)*3);}")
	shows(t, "fn f(){x=~-1;y=- - 1;}", "fn f(){x=(~(-1));y=(-(-1));}")
	shows(t, "fn f(){x=a|b^c&d==e<<f+g*h;}", "fn f(){x=(a|(b^(c&(d==(e<<(f+(g*h)))))));}")
	shows(t, "fn f(){x=a-b-c;if(a){}for i in (0)..(1){}return (z);}", "fn f(){x=((a-b)-c);if a{}for i in 0..1{}return z;}")
	shows(t, "fn f(){g((a),((b)));h[(1)]=(2);}", "fn f(){g(a,b);h[1]=2;}")
}

// P10.2: the right sources that are tried elsewhere too, as wholes.
func TestShowRights(t *testing.T) {
	for _, src := range rights {
		n := parsed(t, src)
		bare(t, n, again(t, n))
		shows(t, parse.Show(n), parse.Show(n))
	}
}

// P10.2: trees that are the same are shown the same, wherever they stood, and with lists that are nil or empty.
func TestShowSame(t *testing.T) {
	for _, src := range rights {
		n := parsed(t, src)
		m := emptied(moved(n, func(at int) int { return 99 - at }))
		if !parse.Same(n, m) || parse.Show(n) != parse.Show(m) {
			t.Errorf("%q, not %q", parse.Show(m), parse.Show(n))
		}
	}
}

// emptied is a tree whose lists aren't nil.
func emptied(n parse.Node) parse.Node {
	l := []parse.Node{}
	for _, x := range n.List {
		l = append(l, emptied(x))
	}
	n.List = l
	return n
}

// P10.2: what is shown is as deep as it can be read, and one deeper; and it is whole then too.
func TestShowDeep(t *testing.T) {
	for _, x := range []struct {
		one       string
		fits      int
		open, end string
	}{{"~", (api.MaxNest - 2) / 2, "(~", ")"}, {"-", (api.MaxNest - 2) / 2, "(-", ")"}, {"(", api.MaxNest - 2, "", ""}, {"a[", api.MaxNest - 2, "a[", "]"}, {"g(", api.MaxNest - 2, "g(", ")"}} {
		source := func(n int) string {
			shut := map[string]string{"(": ")", "a[": "]", "g(": ")"}[x.one]
			return "fn f(){x=" + strings.Repeat(x.one, n) + "1" + strings.Repeat(shut, n) + ";}"
		}
		text := func(n int) string {
			return "fn f(){x=" + strings.Repeat(x.open, n) + "1" + strings.Repeat(x.end, n) + ";}"
		}
		shows(t, source(x.fits), text(x.fits))
		for n := x.fits + 1; n <= api.MaxNest-2; n++ {
			shown := parse.Show(parsed(t, source(n)))
			if shown != text(n) {
				t.Errorf("%q: %q", source(n), shown)
			}
			if _, e, _ := parse.Parse([]byte(shown)); e != api.ErrDeep {
				t.Errorf("%q: %d", shown, e)
			}
		}
	}
	for n := 1; n < 200; n++ {
		src := "fn f(){x=1" + strings.Repeat("+1", n) + ";}"
		want := "fn f(){x=" + strings.Repeat("(", n) + "1" + strings.Repeat("+1)", n) + ";}"
		if n <= api.MaxNest-2 {
			shows(t, src, want)
		} else if got := parse.Show(parsed(t, src)); got != want {
			t.Errorf("%q: %q", src, got)
		}
	}
}

// P10.2: what is shown of great trees: it is read again, where it isn't too long.
func TestShowLong(t *testing.T) {
	for _, x := range []struct{ head, one, tail string }{
		{"fn f(){", "x();", "}"}, {"fn f(){", "y=1;", "}"}, {"", "fn f(){}", ""}, {"fn f(){", "if 1{}", "}"}, {"fn f(){", "return(1+(-x));", "}"}, {"fn f(a:[1]", ",x:pub", "){}"}, {"fn f(){g(1", ",1", ");}"}, {"fn f(){x=" + strings.Repeat("a[", 62) + "1" + strings.Repeat("]", 62) + ";", "x=(a|(b^c));", "}"},
	} {
		n := (api.MaxSource - len(x.head) - len(x.tail)) / len(x.one)
		for parse.Count(parsed(t, x.head+x.tail))+n*(parse.Count(parsed(t, x.head+x.one+x.tail))-parse.Count(parsed(t, x.head+x.tail))) > api.MaxNodes {
			n--
		}
		src := x.head + strings.Repeat(x.one, n) + x.tail
		shows(t, src, src)
	}
	long := strings.Repeat("a", api.MaxName)
	n := api.MaxSource/(len(long)+5) - 1
	shown := parse.Show(parsed(t, "fn f(){"+strings.Repeat(long+"=-1;", n)+"}"))
	if shown != "fn f(){"+strings.Repeat(long+"=(-1);", n)+"}" || len(shown) <= api.MaxSource {
		t.Errorf("%d bytes: %.100q..", len(shown), shown)
	}
	if got := parse.Show(parsed(t, filled(api.MaxNodes))); len(got) != len(filled(api.MaxNodes))+2*(api.MaxNodes-4)/2 {
		t.Errorf("%d bytes: %.100q..", len(got), got)
	}
}

// P10.2: trees that differ in one Kind, Text or Num, or in one node more or less, are not the same; in offsets alone they are.
func TestSame(t *testing.T) {
	for _, src := range rights {
		n := parsed(t, src)
		if !parse.Same(n, n) || !parse.Same(n, parsed(t, " "+src)) || !parse.Same(parsed(t, src+"//"), n) {
			t.Errorf("%q isn't the same as itself", src)
		}
		for i := range all(n) {
			for name, change := range changes {
				m := changed(n, i, change)
				if want := name == "At"; parse.Same(n, m) != want || parse.Same(m, n) != want {
					t.Errorf("%q with %s changed in the %d-th: %t", src, name, i, !want)
				}
			}
		}
	}
	for i, a := range rights {
		for j, b := range rights {
			if parse.Same(parsed(t, a), parsed(t, b)) != (i == j) {
				t.Errorf("%q and %q", a, b)
			}
		}
	}
	for _, x := range [][2]string{
		{"fn f(){x=1;}", "fn f(){x=2;}"}, {"fn f(){x=1;}", "fn f(){y=1;}"}, {"fn f(){x=1;}", "fn g(){x=1;}"}, {"fn f(){x=y;}", "fn f(){x=y();}"}, {"fn f(){let x=1;}", "fn f(){var x=1;}"}, {"fn f(){x=1+2;}", "fn f(){x=1-2;}"}, {"fn f(){x=1+2;}", "fn f(){x=2+1;}"}, {"fn f(){x=1-2-3;}", "fn f(){x=1-(2-3);}"}, {"fn f(){x=~1;}", "fn f(){x=-1;}"},
		{"fn f(){}", "export fn f(){}"}, {"fn f()->u32{}", "fn f()->u64{}"}, {"fn f(x:pub){}", "fn f(x:u32){}"}, {"fn f(x:[1]){}", "fn f(x:[2]){}"}, {"fn f(){arr a[1];}", "fn f(){arr a[2];}"}, {"fn f(){if 1{}}", "fn f(){if 1{}else{}}"}, {"fn f(){f(1);}", "fn f(){f(1,1);}"}, {"fn f(){f();}", "fn f(){}"}, {"fn f(){}", ""}, {"fn f(){}fn g(){}", "fn g(){}fn f(){}"}, {"fn f(){if 1{x();}}", "fn f(){if 1{}x();}"},
	} {
		if a, b := parsed(t, x[0]), parsed(t, x[1]); parse.Same(a, b) || parse.Same(b, a) || parse.Show(a) == parse.Show(b) {
			t.Errorf("%q and %q are the same", x[0], x[1])
		}
	}
}

// changes are those of one node.
var changes = map[string]func(*parse.Node){
	"At":            func(n *parse.Node) { n.At += 1000 },
	"Kind":          func(n *parse.Node) { n.Kind++ },
	"Text":          func(n *parse.Node) { n.Text += "x" },
	"Num":           func(n *parse.Node) { n.Num ^= 1 << 31 },
	"a node more":   func(n *parse.Node) { n.List = append(n.List, parse.Node{}) },
	"a first node":  func(n *parse.Node) { n.List = append([]parse.Node{{Kind: parse.Num}}, n.List...) },
	"a node doubly": func(n *parse.Node) { n.List = append(n.List, *n) },
}

// changed is a tree, in new memory, of which the i-th node is changed.
func changed(n parse.Node, i int, change func(*parse.Node)) parse.Node {
	m := moved(n, func(at int) int { return at })
	at := &m
	for i > 0 {
		i--
		for j := range at.List {
			if size := len(all(at.List[j])); i >= size {
				i -= size
				continue
			}
			at = &at.List[j]
			break
		}
	}
	change(at)
	return m
}

// P1: Show, Same and Count of nodes that are no trees: they end, and don't panic; lists that are nil or empty are one.
func TestAnyNodes(t *testing.T) {
	d := dice(3)
	for range 3000 {
		n := anyNode(&d, 4)
		m := emptied(moved(n, func(at int) int { return at + 1 }))
		if !parse.Same(n, m) || parse.Count(n) != len(all(n)) || parse.Show(n) != parse.Show(m) {
			t.Errorf("%.300s", dump(n))
		}
	}
	for kind := -1; kind <= parse.Bin+1; kind++ {
		for size := range 5 {
			for num := range uint32(9) {
				parse.Show(parse.Node{Kind: kind, Num: num, List: make([]parse.Node, size)})
				parse.Show(parse.Node{Kind: kind, At: -1, Text: "\xff", Num: 1<<32 - 1 - num, List: make([]parse.Node, size)})
			}
		}
	}
	if !parse.Same(parse.Node{}, parse.Node{List: []parse.Node{}}) || parse.Same(parse.Node{}, parse.Node{Kind: 1}) {
		t.Error("nodes with nothing set")
	}
}

func anyNode(d *dice, nest int) parse.Node {
	n := parse.Node{Kind: d.below(23) - 1, At: d.below(9) - 4, Text: []string{"", "x", "fn", "+", "é", "!"}[d.below(6)], Num: uint32(d.below(9))}
	for range d.below(5) * min(nest, 1) {
		n.List = append(n.List, anyNode(d, nest-1))
	}
	return n
}

// P1: trees as deep as they may be handed in.
func TestVeryDeep(t *testing.T) {
	const depth = 100000
	for kind := parse.Program; kind <= parse.Bin; kind++ {
		deep := func() parse.Node {
			n := parse.Node{Kind: parse.Num}
			for range depth - 1 {
				n = parse.Node{Kind: kind, Text: "x", List: []parse.Node{n}}
			}
			return n
		}
		a, b := deep(), deep()
		if parse.Count(a) != depth || !parse.Same(a, b) || parse.Show(a) != parse.Show(b) {
			t.Errorf("%s", kinds[kind])
		}
	}
}
