package parse_test

import (
	"fmt"
	"strings"
	"testing"

	"remontoire/api"
	"remontoire/parse"
)

// nested is a tree of signs as a text with parentheses.
func nested(n parse.Node) string {
	switch n.Kind {
	case parse.Bin:
		return "(" + nested(n.List[0]) + n.Text + nested(n.List[1]) + ")"
	case parse.Un:
		return "(" + n.Text + nested(n.List[0]) + ")"
	case parse.Ref:
		return n.Text
	}
	return placeless(n)
}

// joins holds how an expression's signs nest against how they must.
func joins(t *testing.T, expr, want string) {
	t.Helper()
	f := parsed(t, "fn f(){x="+expr+";}")
	if parse.Count(f) < 5 {
		return
	}
	if got := nested(f.List[0].List[0].List[0].List[0]); got != want {
		t.Errorf("%s: %s, not %s", expr, got, want)
	}
}

// P10.1: each sign alone, at its own offset.
func TestSigns(t *testing.T) {
	for _, s := range binSigns() {
		inside(t, "x=1"+s+"y;", fmt.Sprintf("Set@7 x(Bin@10 %s(Num@9 #1, Ref@%d y))", s, 10+len(s)))
		inside(t, "x= 1 "+s+" y ;", fmt.Sprintf("Set@7 x(Bin@12 %s(Num@10 #1, Ref@%d y))", s, 13+len(s)))
		inside(t, "x=(1)"+s+"(y);", fmt.Sprintf("Set@7 x(Bin@12 %s(Num@10 #1, Ref@%d y))", s, 13+len(s)))
	}
	if len(binSigns()) != 13 || len(ladder) != 7 {
		t.Error(binSigns())
	}
}

// P10.1: each two signs: the tighter one is within, of two of a level the first, and parentheses go ahead of both.
func TestTwoSigns(t *testing.T) {
	for _, a := range binSigns() {
		for _, b := range binSigns() {
			expr := "p" + a + "q" + b + "r"
			switch {
			case levelOf(a) == comparing && levelOf(b) == comparing:
				refused(t, "fn f(){x="+expr+";}", api.ErrSyntax, 9+1+len(a)+1)
			case levelOf(a) < levelOf(b):
				joins(t, expr, "(p"+a+"(q"+b+"r))")
			default:
				joins(t, expr, "((p"+a+"q)"+b+"r)")
			}
			joins(t, "(p"+a+"q)"+b+"r", "((p"+a+"q)"+b+"r)")
			joins(t, "p"+a+"(q"+b+"r)", "(p"+a+"(q"+b+"r))")
		}
	}
}

// P10.1: an Un is tighter than all signs, and takes one operand alone.
func TestUnAndSigns(t *testing.T) {
	for _, s := range binSigns() {
		for _, u := range []string{"~", "-"} {
			joins(t, u+"p"+s+"q", "(("+u+"p)"+s+"q)")
			joins(t, "p"+s+u+"q", "(p"+s+"("+u+"q))")
			joins(t, u+u+"p"+s+u+"q", "(("+u+"("+u+"p))"+s+"("+u+"q))")
			joins(t, u+"(p"+s+"q)", "("+u+"(p"+s+"q))")
		}
	}
	joins(t, "p- -q", "(p-(-q))")
	joins(t, "p--q--r", "((p-(-q))-(-r))")
}

// P10.1: all seven levels in one expression, rising and falling, and several signs of one level from the left.
func TestAllLevels(t *testing.T) {
	joins(t, "a|b^c&d==e<<f+g*h", "(a|(b^(c&(d==(e<<(f+(g*h)))))))")
	joins(t, "a*b+c<<d==e&f^g|h", "(((((((a*b)+c)<<d)==e)&f)^g)|h)")
	joins(t, "a|b^c|d", "((a|(b^c))|d)")
	joins(t, "a+b*c-d/e%f+g", "(((a+(b*c))-((d/e)%f))+g)")
	joins(t, "a<<b>>c<<<d", "(((a<<b)>>c)<<<d)")
	joins(t, "a<b&c==d|e<f", "(((a<b)&(c==d))|(e<f))")
	joins(t, "(a<b)<(c==d)", "((a<b)<(c==d))")
	joins(t, "(a<b)==c", "((a<b)==c)")
	joins(t, "a<(b==c)", "(a<(b==c))")
	joins(t, "a<b^c<d^e<f", "(((a<b)^(c<d))^(e<f))")
	joins(t, "a-b-c-d-e", "((((a-b)-c)-d)-e)")
	joins(t, "a-(b-(c-d))", "(a-(b-(c-d)))")
	for _, s := range binSigns() {
		if levelOf(s) != comparing {
			joins(t, strings.Repeat("a"+s, 9)+"b", "(((((((((a"+s+"a)"+s+"a)"+s+"a)"+s+"a)"+s+"a)"+s+"a)"+s+"a)"+s+"a)"+s+"b)")
		}
	}
}

// P10.1: more than one == or < of one level can't follow, wherever that is.
func TestTwoCompared(t *testing.T) {
	for _, s := range []string{"==", "<"} {
		refusedInside(t, "x=a<b+c"+s+"d;}", api.ErrSyntax, 7)
		refusedInside(t, "x=a|b==c"+s+"d;}", api.ErrSyntax, 8)
		refusedInside(t, "x=a<b"+s, api.ErrSyntax, 5)
		refusedInside(t, "x=(a<b"+s+"c);}", api.ErrSyntax, 6)
		refusedInside(t, "f(a<b"+s+"c);}", api.ErrSyntax, 5)
		refusedInside(t, "a[a<b"+s+"c]=1;}", api.ErrSyntax, 5)
		refusedInside(t, "if a<b"+s+"c{}}", api.ErrSyntax, 6)
		refusedInside(t, "for i in a<b"+s+"c..d{}}", api.ErrSyntax, 12)
		refusedInside(t, "x=-a==b"+s+"c;}", api.ErrSyntax, 7)
		refusedInside(t, "x=a<b|c"+s+"d"+s+"e;}", api.ErrSyntax, 8+len(s))
	}
}
