package parse_test

import (
	"cmp"
	"slices"
	"strings"
	"testing"

	"remontoire/api"
	"remontoire/parse"
)

// openers are what may stand ahead of an operand that is one deeper, and behind it; first is where in it the first operand begins that is.
var openers = []struct {
	open, shut string
	first      int
}{
	{"(", ")", 1}, {"~", "", 1}, {"-", "", 1}, {"a[", "]", 2}, {"f(", ")", 2}, {"f(1,", ")", 2}, {"f(1,2,", ",3)", 2}, {"(1+", ")", 1}, {"(", "<<2)", 1}, {"a[1|2^", "*3]", 2}, {"f(x<", ")", 2},
}

// P10.1: expressions of just MaxNest, and of one more, at whatever token.
func TestDeepOperands(t *testing.T) {
	for _, o := range openers {
		// An operand of a statement of a function's block has the depth 2.
		n := api.MaxNest - 2
		deep := strings.Repeat(o.open, n)
		parsed(t, "fn f(){x="+deep+"1"+strings.Repeat(o.shut, n)+";}")
		deep += o.open[:o.first]
		for _, next := range []string{"1", "y", "(1)", "~1", "-1", "a[1]", "f()", ";", "}", "]", ",", "if", "", "((((", "~~~~", "f(f(f("} {
			refusedInside(t, "x="+deep+next, api.ErrDeep, 2+len(deep))
			refusedInside(t, "x=1;return "+deep+next, api.ErrDeep, 11+len(deep))
		}
		if o.open[o.first-1] != '(' {
			refusedInside(t, "x="+deep+")", api.ErrDeep, 2+len(deep))
		}
	}
	for _, o := range openers {
		for _, p := range openers {
			m := (api.MaxNest - 2) / 2
			open, shut := strings.Repeat(o.open+p.open, m), strings.Repeat(p.shut+o.shut, m)
			parsed(t, "fn f(){x="+open+"1"+shut+";}")
			refusedInside(t, "x="+open+o.open+"1"+o.shut+shut+";}", api.ErrDeep, 2+len(open)+o.first)
		}
	}
}

// P10.1: a call without an argument has no operand that could be too deep, nor has what stands behind a sign one that is deeper.
func TestNotDeeper(t *testing.T) {
	open, shut := strings.Repeat("(", api.MaxNest-2), strings.Repeat(")", api.MaxNest-2)
	for _, x := range []string{"1", "f()", "y", "1+2*3<<4|5", "f()+g()", "1<2&3==4"} {
		parsed(t, "fn f(){x="+open+x+shut+";}")
		parsed(t, "fn f(){x="+open+x+shut+"+"+open+x+shut+";}")
	}
	refusedInside(t, "x="+open+"f(1)", api.ErrDeep, 4+len(open))
	refusedInside(t, "x="+open+"a[1]", api.ErrDeep, 4+len(open))
	refusedInside(t, "x="+open+"1+~1", api.ErrDeep, 5+len(open))
	refusedInside(t, "x="+open+"f(;", api.ErrDeep, 4+len(open))
	refusedInside(t, "x="+open+"f(", api.ErrDeep, 4+len(open))
	refusedInside(t, "x="+open+"f]", api.ErrSyntax, 3+len(open))
}

// P10.1: which depth each statement's expressions have: those in brackets and parentheses are one deeper.
func TestStatementDepths(t *testing.T) {
	for body, depth := range map[string]int{
		"let x=#;": 2, "var x=#;": 2, "x=#;": 2, "a[1]=#;": 2, "a[#]=1;": 3, "f(#);": 3, "f(1,#,2);": 3, "return #;": 2, "if #{}": 2, "for i in #..1{}": 2, "for i in 1..#{}": 2,
		"x=a[#];": 3, "x=f(#);": 3, "x=f(1,#);": 3, "x=~#;": 3, "x=-#;": 3, "x=(#);": 3, "x=1+#;": 2, "x=#+1;": 2, "x=1*(2-#);": 3, "if 1{x=#;}": 3, "if 1{}else{x=#;}": 3, "for i in 0..1{x=#;}": 3, "if 1{a[#]=1;}": 4, "if 1{f(#);}": 4, "if 1{if 1{if #{}}}": 4, "if 1{}x=#;": 2, "x=(1)+#;": 2, "a[(1)]=#;": 2, "f((1),#);": 3,
	} {
		head, tail, _ := strings.Cut(body, "#")
		for _, o := range []string{"~", "-"} {
			parsed(t, "fn f(){"+head+strings.Repeat(o, api.MaxNest-depth)+"1"+tail+"}")
			refusedInside(t, head+strings.Repeat(o, api.MaxNest-depth+1)+"1"+tail+"}", api.ErrDeep, len(head)+api.MaxNest-depth+1)
		}
	}
}

// P10.1: blocks of just MaxNest, and what would be deeper: an operand stands ahead of each.
func TestDeepBlocks(t *testing.T) {
	for _, o := range []struct {
		open string
		at   int
	}{{"if 1{", 3}, {"if x<1{", 3}, {"for i in 0..1{", 9}, {"if 1{}else{", 3}, {"f();if 1{g();}if 2{", 7}} {
		n := api.MaxNest - 1
		open, shut := strings.Repeat(o.open, n), strings.Repeat("}", n+1)
		for _, x := range []string{"", "f();", "arr a[1];", "f();g();"} {
			parsed(t, "fn f(){"+open+x+shut)
			parsed(t, "fn f(){"+open+x+shut+"fn g(){"+open+x+shut)
		}
		refusedInside(t, open+o.open+"}"+shut, api.ErrDeep, len(open)+o.at)
		refusedInside(t, open+"x=1;"+shut, api.ErrDeep, len(open)+2)
		refusedInside(t, open+"let x=1;"+shut, api.ErrDeep, len(open)+6)
		refusedInside(t, open+"return;"+shut, api.ErrDeep, len(open)+6)
		refusedInside(t, open+"f(1);"+shut, api.ErrDeep, len(open)+2)
		refusedInside(t, open+"f(", api.ErrDeep, len(open)+2)
		refusedInside(t, open+"if{", api.ErrDeep, len(open)+2)
		refusedInside(t, open+"for i in..", api.ErrDeep, len(open)+8)
		refusedInside(t, open+"if", api.ErrDeep, len(open)+2)
		refusedInside(t, open+"for", api.ErrSyntax, len(open)+3)
		refusedInside(t, open+";", api.ErrSyntax, len(open))
		refusedInside(t, open+"else", api.ErrSyntax, len(open))
		one := strings.Repeat(o.open, n-1)
		parsed(t, "fn f(){"+one+"x=1;if y{}"+strings.Repeat("}", n))
		refusedInside(t, one+"f(1);", api.ErrDeep, len(one)+2)
		refusedInside(t, one+"a[1]", api.ErrDeep, len(one)+2)
		refusedInside(t, one+"x=~1", api.ErrDeep, len(one)+3)
	}
}

// P10.1: depths of all kinds within one another, against the model.
func TestDeepModel(t *testing.T) {
	d := dice(64)
	met := map[api.Errno]int{}
	blocks := []string{"if 1{", "for i in 0..x{", "if x{}else{", "a();if 0{b();}if 2{", "if(1){", "if~1{"}
	for range 3000 {
		var b strings.Builder
		b.WriteString("fn f(){")
		n := d.below(64)
		for range n {
			b.WriteString(blocks[d.below(len(blocks)-d.below(3))])
		}
		b.WriteString([]string{"x=", "a[", "f(1,", "return ", "let x=1-", "if ", "for i in 0.."}[d.below(7)])
		for range max(0, 58-n+d.below(8)) {
			b.WriteString(openers[d.below(len(openers))].open)
		}
		b.WriteString([]string{"1", "(", "", ";", "x{", "f()", "a[", ")"}[d.below(8)])
		met[asModel(t, b.String())]++
	}
	if met[api.ErrDeep] < 500 || met[api.ErrSyntax] < 500 {
		t.Error(met)
	}
}

// P10.1: trees of just MaxNodes, and with one node more, of several kinds.
func TestNodes(t *testing.T) {
	for _, n := range []int{6, 7, 100, api.MaxNodes - 1, api.MaxNodes} {
		if got := parse.Count(parsed(t, filled(n))); got != n {
			t.Errorf("%d nodes, not %d", got, n)
		}
	}
	refused(t, filled(api.MaxNodes+1), api.ErrCount, len(filled(api.MaxNodes+1))-3)
	refused(t, filled(api.MaxNodes+2), api.ErrCount, len(filled(api.MaxNodes+2))-3-1)
	for _, x := range []struct {
		head, one, tail string
		nodes, each     int
	}{
		{"fn f(){", "x();", "}", 3, 1}, {"fn f(", "x:pub,", "x:pub){}", 4, 1}, {"fn f(){f(", "1,", "1);}", 5, 1}, {"", "fn f(){}", "", 1, 2}, {"fn f(){", "if 1{}", "}", 3, 3},
		{"fn f(){", "a[1]=2;", "}", 3, 3}, {"fn f(a:[1]){", "x=~1;", "}", 5, 3}, {"fn f(){x=1", "|1", ";}", 5, 2}, {"fn f(){x=1", "*1", ";}", 5, 2}, {"fn f(){x=1", "|(1)", ";}", 5, 2}, {"fn f(", "a:[1],", "a:[1]){}", 5, 2}, {"fn f(){x=a[1]", "+f(2)", ";}", 6, 3},
	} {
		n := min((api.MaxNodes-x.nodes)/x.each, (api.MaxSource-len(x.head)-len(x.tail))/len(x.one)-1)
		src := x.head + strings.Repeat(x.one, n) + x.tail
		if got := parse.Count(parsed(t, src)); got != x.nodes+n*x.each {
			t.Errorf("%.30q: %d, not %d", src, got, x.nodes+n*x.each)
		}
		if n < (api.MaxNodes-x.nodes)/x.each {
			continue
		}
		more := x.head + strings.Repeat(x.one, n+1) + x.tail
		if e := asModel(t, more); e != api.ErrCount {
			t.Errorf("%.30q: %d", more, e)
		}
	}
}

// roomFor is a source of which the tail has room for so many nodes.
func roomFor(nodes int) string { return filled(api.MaxNodes-nodes) + " " }

// P10.1: of right sources behind others each node is once the first one that is too many: it is told at its own offset.
func TestEachNode(t *testing.T) {
	for _, src := range rights {
		l := all(parsed(t, src))[1:]
		slices.SortFunc(l, func(a, b parse.Node) int { return cmp.Compare(a.At, b.At) })
		for i, n := range l {
			head := roomFor(i)
			refused(t, head+src, api.ErrCount, len(head)+n.At)
		}
		parsed(t, roomFor(len(l))+src)
		parsed(t, roomFor(len(l)+1)+src)
	}
}

// P10.1: where a node has to begin, it counts whatever the token is, and ErrCount goes ahead of ErrSyntax; else it is ErrSyntax.
func TestCountAheadOfSyntax(t *testing.T) {
	for _, x := range []struct {
		nodes      int
		tail, next string
		want       api.Errno
	}{
		{0, "", "x", api.ErrCount}, {0, "", "}", api.ErrCount}, {0, "", "export", api.ErrCount}, {0, "", "1", api.ErrCount}, {1, "", "x", api.ErrSyntax}, {1, "export", "export", api.ErrSyntax}, {1, "export", "", api.ErrSyntax}, {1, "fn", "if", api.ErrSyntax}, {1, "fn g", ";", api.ErrSyntax},
		{1, "fn g(", "x", api.ErrCount}, {1, "fn g(", "1", api.ErrCount}, {1, "fn g(", "if", api.ErrCount}, {1, "fn g(", ",", api.ErrCount}, {1, "fn g(", "", api.ErrCount}, {2, "fn g(", "1", api.ErrSyntax}, {2, "fn g(x", ")", api.ErrSyntax}, {2, "fn g(x:pub", ";", api.ErrSyntax}, {2, "fn g(x:pub,", ")", api.ErrCount}, {2, "fn g(x:pub,", "", api.ErrCount}, {3, "fn g(x:pub,", ")", api.ErrSyntax},
		{2, "fn g(a:", "[", api.ErrCount}, {2, "fn g(a:", "x", api.ErrCount}, {2, "fn g(a:", "let", api.ErrCount}, {2, "fn g(a:", "", api.ErrCount}, {2, "fn g(a:", ")", api.ErrCount}, {3, "fn g(a:", "x", api.ErrSyntax}, {3, "fn g(a:[", "x", api.ErrSyntax}, {3, "fn g(a:[1", ")", api.ErrSyntax}, {3, "fn g(a:[1]", "]", api.ErrSyntax},
		{1, "fn g()", "{", api.ErrCount}, {1, "fn g()", "x", api.ErrCount}, {1, "fn g()", "", api.ErrCount}, {1, "fn g()", ";", api.ErrCount}, {2, "fn g()", ";", api.ErrSyntax}, {1, "fn g()->", "{", api.ErrSyntax}, {1, "fn g()->u32", "->", api.ErrCount}, {1, "fn g()->u64", "{", api.ErrCount}, {2, "fn g()->u64", ";", api.ErrSyntax},
		{2, "fn g(){", "x", api.ErrCount}, {2, "fn g(){", "", api.ErrCount}, {2, "fn g(){", ";", api.ErrCount}, {2, "fn g(){", "else", api.ErrCount}, {2, "fn g(){", "let", api.ErrCount}, {2, "fn g(){", "1", api.ErrCount}, {3, "fn g(){", "1", api.ErrSyntax}, {2, "fn g(){}", "x", api.ErrCount}, {3, "fn g(){}", "x", api.ErrSyntax},
		{3, "fn g(){x=", "1", api.ErrCount}, {3, "fn g(){x=", "y", api.ErrCount}, {3, "fn g(){x=", "~", api.ErrCount}, {3, "fn g(){x=", ";", api.ErrCount}, {3, "fn g(){x=", ")", api.ErrCount}, {3, "fn g(){x=", "if", api.ErrCount}, {3, "fn g(){x=", "", api.ErrCount}, {4, "fn g(){x=", ")", api.ErrSyntax}, {4, "fn g(){x=~", "-", api.ErrCount}, {4, "fn g(){x=~", ";", api.ErrCount}, {5, "fn g(){x=~", ";", api.ErrSyntax},
		{3, "fn g(){x=(", "1", api.ErrCount}, {3, "fn g(){x=((", ")", api.ErrCount}, {3, "fn g(){x=(((", "", api.ErrCount}, {4, "fn g(){x=(", ")", api.ErrSyntax}, {4, "fn g(){x=(1", ";", api.ErrSyntax},
		{4, "fn g(){x=1", "+", api.ErrCount}, {4, "fn g(){x=1", "==", api.ErrCount}, {4, "fn g(){x=1", "=", api.ErrSyntax}, {4, "fn g(){x=1", "2", api.ErrSyntax}, {4, "fn g(){x=1", "", api.ErrSyntax}, {5, "fn g(){x=1+", "2", api.ErrCount}, {5, "fn g(){x=1+", "*", api.ErrCount}, {6, "fn g(){x=1<2", "<", api.ErrSyntax}, {6, "fn g(){x=1<2", "==", api.ErrSyntax}, {6, "fn g(){x=1<2", "|", api.ErrCount}, {6, "fn g(){x=1<2", "*", api.ErrCount},
		{4, "fn g(){x=f(", "1", api.ErrCount}, {4, "fn g(){x=f(", ",", api.ErrCount}, {4, "fn g(){x=f(", ";", api.ErrCount}, {4, "fn g(){x=a[", "]", api.ErrCount}, {5, "fn g(){x=a[", "]", api.ErrSyntax}, {5, "fn g(){x=f(1", ";", api.ErrSyntax}, {5, "fn g(){x=f(1,", ")", api.ErrCount}, {6, "fn g(){x=f(1,", ")", api.ErrSyntax}, {4, "fn g(){x=f()", "(", api.ErrSyntax},
		{3, "fn g(){f(", ";", api.ErrCount}, {3, "fn g(){f()", "}", api.ErrSyntax}, {3, "fn g(){a[", "]", api.ErrCount}, {4, "fn g(){a[1", ";", api.ErrSyntax}, {4, "fn g(){a[1]=", ";", api.ErrCount}, {3, "fn g(){let x=", ";", api.ErrCount}, {3, "fn g(){let x", ";", api.ErrSyntax}, {3, "fn g(){let", "let", api.ErrSyntax}, {3, "fn g(){arr a[", "x", api.ErrSyntax}, {3, "fn g(){arr a[1]", "x", api.ErrSyntax}, {3, "fn g(){return", ";", api.ErrCount},
		{3, "fn g(){if", "{", api.ErrCount}, {4, "fn g(){if 1", "{", api.ErrCount}, {4, "fn g(){if 1", ";", api.ErrCount}, {4, "fn g(){if 1", "", api.ErrCount}, {4, "fn g(){if 1", "+", api.ErrCount}, {6, "fn g(){if 1<2", "<", api.ErrCount}, {7, "fn g(){if 1<2", "<", api.ErrSyntax}, {5, "fn g(){if 1{}else", "{", api.ErrCount}, {5, "fn g(){if 1{}else", "if", api.ErrCount}, {6, "fn g(){if 1{}else", "if", api.ErrSyntax}, {5, "fn g(){if 1{}", ";", api.ErrCount}, {6, "fn g(){if 1{}else{}", "else", api.ErrCount},
		{3, "fn g(){for i in", "..", api.ErrCount}, {4, "fn g(){for i in 0", "{", api.ErrSyntax}, {4, "fn g(){for i in 0..", "{", api.ErrCount}, {5, "fn g(){for i in 0..1", "{", api.ErrCount}, {5, "fn g(){for i in 0..1", ";", api.ErrCount}, {6, "fn g(){for i in 0..1", ";", api.ErrSyntax}, {3, "fn g(){for", "in", api.ErrSyntax},
	} {
		head := roomFor(x.nodes) + x.tail + " "
		if x.next == "" {
			head = strings.TrimSuffix(head, " ")
		}
		refused(t, head+x.next, x.want, len(head))
	}
}

// P10.1: right sources and such as are wrong, with room for few nodes, against the model.
func TestCountModel(t *testing.T) {
	d := dice(5)
	met := map[api.Errno]int{}
	for range 150 {
		l := texts(t, rights[2+d.below(len(rights)-2)])
		i := d.below(len(l))
		src := strings.Join(slices.Concat(l[:i], []string{more[d.below(len(more)-1)]}, l[min(i+d.below(2), len(l)-1):]), " ")
		met[asModel(t, roomFor(d.below(i/2+4))+src)]++
	}
	if met[api.ErrCount] < 40 || met[api.ErrSyntax] < 20 {
		t.Error(met)
	}
}

// P10.1: of one token ErrDeep is told ahead of ErrCount, and that ahead of ErrSyntax.
func TestOrder(t *testing.T) {
	for _, next := range []string{";", ")", "if", "..", ""} {
		for _, x := range []struct {
			room, deep int
			want       api.Errno
		}{{3, api.MaxNest - 1, api.ErrDeep}, {4, api.MaxNest - 1, api.ErrDeep}, {3, api.MaxNest - 2, api.ErrCount}, {4, api.MaxNest - 2, api.ErrSyntax}} {
			head := roomFor(x.room) + "fn g(){x=" + strings.Repeat("(", x.deep)
			refused(t, head+next, x.want, len(head))
			refused(t, head+"\n"+next, x.want, len(head)+1)
		}
	}
	// What comes first is told, whatever it is.
	deep := strings.Repeat("~", api.MaxNest)
	refused(t, roomFor(3)+"fn g(){x="+deep, api.ErrCount, len(roomFor(3))+9)
	refused(t, roomFor(3)+"fn g(x){x="+deep, api.ErrSyntax, len(roomFor(3))+6)
	refused(t, roomFor(70)+"fn g(){x="+deep+"1", api.ErrDeep, len(roomFor(70))+9+api.MaxNest-1)
	refused(t, "fn f(){x="+deep+"1;} fn", api.ErrDeep, 9+api.MaxNest-1)
	refused(t, "fn f(){x y="+deep+"1;}", api.ErrSyntax, 9)
	// A parenthesis that is too deep is so at itself; its node isn't counted.
	head := roomFor(3) + "fn g(){x=" + strings.Repeat("(", api.MaxNest-1)
	refused(t, head+"(", api.ErrDeep, len(head))
	refused(t, head+"(1)", api.ErrDeep, len(head))
}
