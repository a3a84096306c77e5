package parse_test

import (
	"bytes"
	"testing"

	"remontoire/parse"
)

const whole = "export fn f(a:[4],p:pub)->u64{let q=p*2+1;arr b[8];b[1]=~x^g(x,7)<<<7;if q<3{g(x);}else{x=1;}for i in 0..q{x=a[i]+1&2;}return z;}fn g(x:u32){}"

// What is handed in is neither changed nor kept, its spare room neither.
func TestSourceMemory(t *testing.T) {
	data := []byte(whole + " spare 1 + !")
	kept := bytes.Clone(data)
	n, _, _ := parse.Parse(data[:len(whole)])
	want := dump(n)
	if !bytes.Equal(data, kept) {
		t.Error("the source is changed")
	}
	for i := range data {
		data[i] = 'x'
	}
	if dump(n) != want {
		t.Errorf("the tree is changed with the source: %s", dump(n))
	}
	m, _, _ := parse.Parse(kept[:len(whole)])
	if dump(m) != want {
		t.Errorf("a later call tells another tree: %s", dump(m))
	}
}

// No two trees share anything, nor do two lists of one, their spare room neither.
func TestTreeMemory(t *testing.T) {
	n, m := parsed(t, whole), parsed(t, whole)
	want := dump(n)
	spoil(m)
	if dump(n) != want {
		t.Errorf("the tree is changed with another: %s", dump(n))
	}
	seen := map[*parse.Node]bool{}
	for _, x := range append(all(n), all(parsed(t, whole))...) {
		for i := range x.List[:cap(x.List)] {
			p := &x.List[:cap(x.List)][i]
			if seen[p] {
				t.Errorf("a list of %s is shared", dump(x))
			}
			seen[p] = true
		}
	}
}

// spoil overwrites all lists of a tree, their spare room too.
func spoil(n parse.Node) {
	for _, x := range n.List {
		spoil(x)
	}
	clear(n.List[:cap(n.List)])
}

// Show, Count and Same change nothing.
func TestUnchanged(t *testing.T) {
	n, m := parsed(t, whole), parsed(t, " "+whole)
	a, b := dump(n), dump(m)
	first := parse.Show(n)
	parse.Count(n)
	parse.Same(n, m)
	parse.Show(m)
	if dump(n) != a || dump(m) != b || parse.Show(n) != first {
		t.Error("a tree is changed")
	}
}

// A call tells the same, whatever was called ahead of it, errors too.
func TestNothingKept(t *testing.T) {
	want := dump(parsed(t, whole))
	for _, src := range []string{"fn", "fn f(){", "!", filled(17000), "fn f(){x=" + string(bytes.Repeat([]byte("("), 100)), ""} {
		_, e, at := parse.Parse([]byte(src))
		if got := dump(parsed(t, whole)); got != want {
			t.Errorf("behind %.40q: %s", src, got)
		}
		if _, again, where := parse.Parse([]byte(src)); again != e || where != at {
			t.Errorf("%.40q: %d at %d, and then %d at %d", src, e, at, again, where)
		}
	}
}
