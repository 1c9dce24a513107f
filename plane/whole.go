package plane

import (
	"slices"
	"sort"

	"unbent/api"
	"unbent/frac"
)

// mostOpened is how many nodes Whole tries at most. Some of them may turn out to be needless once the best vector is known, so that a tree with more than MaxLeaves leaves is not given up at once.
const mostOpened = 4 * api.MaxLeaves

// Whole is the best vector that fits p and has 0 or 1 at each variable of whole, with a tree of cases that JudgeWhole accepts. Right's error; ErrProg, if an entry of whole is not a variable's number, stands twice, or is free; ErrSize, if p or the tree is too large.
func Whole(p api.Prog, whole []int) (api.Tree, api.Errno) {
	if e := Right(p); e != api.OK {
		return api.Tree{}, e
	}
	if !wholeAs(p, whole) {
		return api.Tree{}, api.ErrProg
	}
	if p.Vars > api.SolveVars || len(p.Rows)+2*len(whole) > api.SolveRows || len(whole) > api.MaxWhole {
		return api.Tree{}, api.ErrSize
	}
	s := newSearch(p, whole)
	if s.nodes[0].cert.Kind != api.Endless {
		return s.tree()
	}
	ray := s.nodes[0].cert.Ray
	level := p // of an endless program any whole vector will do
	level.Goal = zeros(p.Vars)
	t, e := newSearch(level, whole).tree()
	if e == api.OK && t.Kind == api.Best {
		t = api.Tree{Kind: api.Endless, X: t.X, Ray: ray}
	}
	return t, e
}

// mostKept is how many numbers the tables that are kept have at most: those of all nodes would take much memory.
const mostKept = 1 << 20

// search is a tree that grows where the best whole vector may be.
type search struct {
	prog  api.Prog // with the bounds of whole's variables
	whole []int
	nodes []node
	open  []int // the leaves that ask a variable, by their values
	room  int   // how many of them keep their tables
	best  int   // the node of the best whole vector so far, or -1
}

// node is a node of a search: its program, with some variables fixed, and the answer.
type node struct {
	vars, bits []int
	table      *table // solved; none, where it is not kept
	cert       api.Cert
	value      api.Frac // of a Best certificate
	asked      int      // a variable that is neither 0 nor 1 at X, or -1
	zero, one  int      // the nodes in which it is; 0 if they are not there
}

func newSearch(p api.Prog, whole []int) *search {
	s := &search{prog: boxed(p, whole), whole: whole, best: -1}
	t := newTable(s.prog, roughly)
	s.room = mostKept / max(1, len(t.lines)*len(t.columns))
	s.put(node{table: t, cert: t.certify(s.prog, t.solve())})
	return s
}

// put puts a node behind the others, and tells its number.
func (s *search) put(n node) int {
	at := len(s.nodes)
	n.asked = -1
	if n.cert.Kind == api.Best {
		n.value = Value(s.prog, n.cert.X)
		n.asked = halved(s.whole, n.cert.X)
		if n.asked < 0 && (s.best < 0 || s.exceeds(n, s.nodes[s.best])) {
			s.best = at
		}
	}
	s.nodes = append(s.nodes, n)
	if n.asked >= 0 {
		s.hold(at)
	} else if at > 0 {
		s.nodes[at].table = nil
	}
	return at
}

func (s *search) exceeds(n, m node) bool { return frac.Cmp(n.value, m.value) > 0 }

// hold holds a node open: behind those whose values are not above its own one. Tables are kept of the last ones, which are asked first.
func (s *search) hold(at int) {
	place := sort.Search(len(s.open), func(i int) bool { return s.exceeds(s.nodes[s.open[i]], s.nodes[at]) })
	s.open = slices.Insert(s.open, place, at)
	if left := len(s.open) - s.room; left > 0 {
		s.nodes[s.open[left-1]].table = nil
	}
}

// halved is the variable of vars whose number is nearest to 1/2, if there is one that is neither 0 nor 1; else -1.
func halved(vars []int, x []api.Frac) int {
	found := -1
	var least api.Frac
	for _, v := range vars {
		if isBit(x[v]) {
			continue
		}
		off := frac.Sub(frac.Add(x[v], x[v]), integer(1))
		if size := frac.Mul(off, off); found < 0 || frac.Cmp(size, least) < 0 {
			found, least = v, size
		}
	}
	return found
}

// tree is the answer of the grown search; ErrSize, if it would need too many leaves.
func (s *search) tree() (api.Tree, api.Errno) {
	for len(s.open) > 0 && !s.beaten(s.nodes[s.open[len(s.open)-1]]) {
		if len(s.nodes) > mostOpened {
			return api.Tree{}, api.ErrSize
		}
		s.part()
	}
	out := api.Tree{Kind: api.None}
	if s.best >= 0 {
		out = api.Tree{Kind: api.Best, X: read(s.prog.Vars, entries(s.nodes[s.best].cert.X))}
	}
	s.tell(&out, 0)
	if len(out.Cases) > 2*api.MaxLeaves-1 {
		return api.Tree{}, api.ErrSize
	}
	return out, api.OK
}

// beaten reports whether a node's own certificate proves that nothing is better there than the best whole vector.
func (s *search) beaten(n node) bool {
	return s.best >= 0 && n.cert.Kind == api.Best && !s.exceeds(n, s.nodes[s.best])
}

// part asks the open node of the greatest value, of several the last one.
func (s *search) part() {
	at := s.open[len(s.open)-1]
	s.open = s.open[:len(s.open)-1]
	t := s.table(s.nodes[at])
	if at > 0 { // the root's table stays: the others may be made of it again
		s.nodes[at].table = nil
	}
	zero := s.put(s.child(s.nodes[at], t, 0))
	one := s.put(s.child(s.nodes[at], t, 1))
	s.nodes[at].zero, s.nodes[at].one = zero, one
}

// table is a node's table: its own, or made again from the root's.
func (s *search) table(n node) *table {
	if n.table != nil {
		return n.table
	}
	t := s.nodes[0].table.clone()
	for i, v := range n.vars {
		t.fix(v, n.bits[i])
	}
	t.repair()
	return t
}

// child is the node in which a node's variable is bit.
func (s *search) child(of node, t *table, bit int) node {
	n := node{vars: with(of.vars, of.asked), bits: with(of.bits, bit), table: t.clone()}
	n.table.fix(of.asked, bit)
	n.cert = n.table.certify(bound(s.prog, n.vars, n.bits), n.table.repaired())
	return n
}

// with is a list in memory of its own, with one number more.
func with(l []int, n int) []int {
	return append(append([]int{}, l...), n)
}

// tell tells the cases from a node on, without those that are needless.
func (s *search) tell(t *api.Tree, at int) {
	n := s.nodes[at]
	if n.zero == 0 || s.beaten(n) {
		t.Cases = append(t.Cases, api.Case{Var: -1, Cert: n.cert})
		return
	}
	here := len(t.Cases)
	t.Cases = append(t.Cases, api.Case{Var: n.asked})
	t.Cases[here].Zero = len(t.Cases)
	s.tell(t, n.zero)
	t.Cases[here].One = len(t.Cases)
	s.tell(t, n.one)
}
