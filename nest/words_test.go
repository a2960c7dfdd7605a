package nest_test

import (
	"fmt"
	"math"
	"math/rand"
	"slices"
	"testing"

	"granger/api"
	"granger/dev"
	"granger/inner"
	"granger/nest"
	"granger/node"
	"granger/slab"
)

// entry is a node with its number.
type entry struct {
	ref int
	x   *node.Node
}

// byWords is a nest made from the chapter's words, over a device of its own: lists alone, each gone through from its beginning.
type byWords struct {
	d       *dev.Device
	puts    int
	fresh   []entry
	kept    []entry // that one first which was got, or written, longest ago
	dropped []int
}

// find is where a number stands in a list; -1, if it doesn't.
func find(list []entry, ref int) int {
	return slices.IndexFunc(list, func(x entry) bool { return x.ref == ref })
}

// without is a list without a number.
func without(list []entry, ref int) []entry {
	return slices.DeleteFunc(slices.Clone(list), func(x entry) bool { return x.ref == ref })
}

func (w *byWords) hasBlock(at int) bool { return at >= 0 && at < w.d.Len() }

func (w *byWords) get(ref int) (*node.Node, api.Errno) {
	if ref >= 512 {
		if i := find(w.fresh, ref); i >= 0 {
			return w.fresh[i].x, api.OK
		}
		return nil, api.ErrNone
	}
	if slices.Contains(w.dropped, ref) {
		return nil, api.ErrNone
	}
	if i := find(w.kept, ref); i >= 0 {
		x := w.kept[i]
		w.kept = append(without(w.kept, ref), x)
		return x.x, api.OK
	}
	b, e := w.d.Read(ref)
	if e != api.OK {
		return nil, e
	}
	s, e := slab.Open(b)
	if e != api.OK {
		return nil, e
	}
	x, e := node.Parse(s)
	if e != api.OK {
		return nil, e
	}
	w.kept = append(w.kept, entry{ref, x})
	return x, api.OK
}

func (w *byWords) put(x *node.Node) (int, api.Errno) {
	if x == nil {
		return 0, api.ErrArg
	}
	w.puts++
	w.fresh = append(w.fresh, entry{511 + w.puts, x})
	return 511 + w.puts, api.OK
}

func (w *byWords) set(ref int, x *node.Node) api.Errno {
	if x == nil {
		return api.ErrArg
	}
	i := find(w.fresh, ref)
	if i < 0 {
		return api.ErrNone
	}
	w.fresh[i].x = x
	return api.OK
}

func (w *byWords) drop(ref int) api.Errno {
	if ref >= 512 {
		if find(w.fresh, ref) < 0 {
			return api.ErrNone
		}
		w.fresh = without(w.fresh, ref)
		return api.OK
	}
	if !w.hasBlock(ref) {
		return api.ErrRange
	}
	if slices.Contains(w.dropped, ref) {
		return api.ErrNone
	}
	w.dropped = append(w.dropped, ref)
	w.kept = without(w.kept, ref)
	return api.OK
}

func (w *byWords) own(ref int) (int, api.Errno) {
	x, e := w.get(ref)
	if e != api.OK {
		return 0, e
	}
	if ref >= 512 {
		return ref, api.OK
	}
	r, _ := w.put(x)
	return r, w.drop(ref)
}

// tour is the fresh nodes that are reached, kids first, and how often each is.
type tour struct {
	list  []int
	often map[int]int
}

// walk goes on from a number, but from none a second time.
func (w *byWords) walk(ref int, o *tour) {
	i := find(w.fresh, ref)
	if i < 0 {
		return
	}
	o.often[ref]++
	if o.often[ref] > 1 {
		return
	}
	for _, kid := range w.fresh[i].x.Kids() {
		w.walk(kid, o)
	}
	o.list = append(o.list, ref)
}

func (w *byWords) write(root int, blocks []int) (int, api.Errno) {
	if !w.hasBlock(root) && find(w.fresh, root) < 0 {
		return 0, api.ErrNone
	}
	o := &tour{often: map[int]int{}}
	w.walk(root, o)
	list := o.list
	for _, x := range w.fresh {
		if o.often[x.ref] != 1 {
			return 0, api.ErrState
		}
	}
	if len(blocks) != len(w.fresh) {
		return 0, api.ErrArg
	}
	for _, at := range blocks {
		if !w.hasBlock(at) {
			return 0, api.ErrRange
		}
	}
	var row []entry
	for i, ref := range list {
		x := w.moved(w.fresh[find(w.fresh, ref)].x, list, blocks)
		if !x.Fits() {
			return 0, api.ErrFull
		}
		row = append(row, entry{blocks[i], x})
	}
	for _, x := range row {
		s, _ := x.x.Bytes()
		b, _ := slab.Lay(s)
		if e := w.d.Write(x.ref, b); e != api.OK {
			return 0, e
		}
	}
	w.fresh = nil
	for _, x := range row {
		w.kept = append(without(w.kept, x.ref), x)
		w.dropped = slices.DeleteFunc(w.dropped, func(at int) bool { return at == x.ref })
	}
	if root < 512 {
		return root, api.OK
	}
	return blocks[slices.Index(list, root)], api.OK
}

// moved is a node with blocks in the places of the numbers of list.
func (w *byWords) moved(x *node.Node, list, blocks []int) *node.Node {
	if x.IsLeaf() {
		return x
	}
	kids := x.Kids()
	for i, kid := range kids {
		if at := slices.Index(list, kid); at >= 0 {
			kids[i] = blocks[at]
		}
	}
	y, _ := inner.Of(kids, x.Inner().Pivots(), x.Inner().Buff().List()...)
	return node.OfInner(y)
}

func (w *byWords) trim(most int) {
	if most < 0 {
		most = 0
	}
	if len(w.kept) > most {
		w.kept = slices.Clone(w.kept[len(w.kept)-most:])
	}
}

// pair is a nest, and one made from the words, each over a device of its own, to which the same happens.
type pair struct {
	t    *testing.T
	n    *nest.Nest
	d    *dev.Device
	w    *byWords
	tape []byte // what is asked, step by step
}

// pairOf is both, over devices of so many blocks.
func pairOf(t *testing.T, size int, tape []byte) *pair {
	d := dev.New(size)
	return &pair{t: t, n: nest.New(d), d: d, w: &byWords{d: dev.New(size)}, tape: tape}
}

// next is a number below n that the tape tells; 0 at its end.
func (p *pair) next(n int) int {
	if len(p.tape) == 0 {
		return 0
	}
	b := p.tape[0]
	p.tape = p.tape[1:]
	return int(b) % n
}

// ref is a number: mostly of a block or a fresh node.
func (p *pair) ref() int {
	switch p.next(8) {
	case 0:
		return []int{-1, p.d.Len(), 511, 512, 512 + p.w.puts, math.MinInt, math.MaxInt}[p.next(7)]
	case 1, 2, 3:
		return p.next(p.d.Len())
	}
	if len(p.w.fresh) == 0 {
		return 512 + p.next(8)
	}
	return p.w.fresh[p.next(len(p.w.fresh))].ref
}

// node is one: a leaf, or one over any numbers; none, and such as don't fit, too.
func (p *pair) node() *node.Node {
	switch p.next(8) {
	case 0:
		return []*node.Node{nil, heavy(), leafOf(), over(0, 1, 2, 3, 4, 5, 6)}[p.next(4)]
	case 1, 2, 3:
		kids := make([]int, 1+p.next(4))
		for i := range kids {
			kids[i] = max(p.ref(), 0)
		}
		return over(kids...)
	}
	return leafOf(string(rune('a'+p.next(26))), string(rune('A'+p.next(26))))
}

// tops is the fresh nodes that are no fresh node's kids.
func (p *pair) tops() []int {
	var row []int
	for _, x := range p.w.fresh {
		isKid := func(o entry) bool { return slices.Contains(o.x.Kids(), x.ref) }
		if !slices.ContainsFunc(p.w.fresh, isKid) {
			row = append(row, x.ref)
		}
	}
	return row
}

// blocks is so many blocks, or one more or fewer, most of them on the device.
func (p *pair) blocks(n int) []int {
	if p.next(8) == 0 {
		n = max(0, n+1-2*p.next(2))
	}
	row := make([]int, n)
	for i := range row {
		row[i] = p.next(p.d.Len())
	}
	if n > 0 && p.next(16) == 0 {
		row[p.next(n)] = []int{-1, p.d.Len(), 512, math.MinInt, math.MaxInt}[p.next(5)]
	}
	return row
}

// wantRef wants both to answer the same number.
func (p *pair) wantRef(what string, ref, want int, e, wantE api.Errno) {
	p.t.Helper()
	if ref != want || e != wantE {
		p.t.Fatalf("%s: %d, %d; want %d, %d", what, ref, e, want, wantE)
	}
}

// wantNode wants both to answer the same node.
func (p *pair) wantNode(ref int) {
	p.t.Helper()
	x, e := p.n.Get(ref)
	y, wantE := p.w.get(ref)
	if !node.Same(x, y) || e != wantE {
		p.t.Fatalf("Get(%d): %v, %d; want %v, %d", ref, x, e, y, wantE)
	}
}

// write asks both to write all.
func (p *pair) write(root int, blocks []int) {
	p.t.Helper()
	at, e := p.n.Write(root, blocks...)
	want, wantE := p.w.write(root, blocks)
	p.wantRef(fmt.Sprintf("Write(%d, %d)", root, blocks), at, want, e, wantE)
}

// gather puts a node over all that is reached from none, and asks for all to be written.
func (p *pair) gather() {
	tops := p.tops()
	if len(tops) != 1 {
		x := over(append(tops, p.next(p.d.Len()))...)
		ref, e := p.n.Put(x)
		want, wantE := p.w.put(x)
		p.wantRef("Put", ref, want, e, wantE)
		tops = []int{ref}
	}
	p.write(tops[0], p.blocks(len(p.w.fresh)))
}

// both does something to both devices.
func (p *pair) both(do func(d *dev.Device)) {
	do(p.d)
	do(p.w.d)
}

// power lets the power go, now or later, or come.
func (p *pair) power() {
	keep := []bool{p.next(2) == 0, p.next(2) == 0, true, false, true, true, true, true}
	fuse := p.next(6)
	switch p.next(4) {
	case 0:
		p.both(func(d *dev.Device) { d.Fuse(fuse, keep...) })
	case 1:
		p.both(func(d *dev.Device) { d.Cut(keep...) })
	default:
		p.both((*dev.Device).Come)
	}
}

// turn writes to both devices past the nests: a node, or nothing that is one.
func (p *pair) turn() {
	at := p.next(p.d.Len())
	s, e := p.node().Bytes()
	if e != api.OK {
		s = "no node"
	}
	b, _ := slab.Lay(s)
	if p.next(8) == 0 {
		b = "x" + b[1:]
	}
	p.both(func(d *dev.Device) { d.Write(at, b) })
}

// step asks both for the same.
func (p *pair) step() {
	switch p.next(16) {
	case 0, 1, 2, 3:
		p.wantNode(p.ref())
	case 4, 5:
		x := p.node()
		ref, e := p.n.Put(x)
		want, wantE := p.w.put(x)
		p.wantRef("Put", ref, want, e, wantE)
	case 6:
		ref, x := p.ref(), p.node()
		p.wantRef("Set", 0, 0, p.n.Set(ref, x), p.w.set(ref, x))
	case 7:
		ref := p.ref()
		p.wantRef("Drop", 0, 0, p.n.Drop(ref), p.w.drop(ref))
	case 8:
		at := p.ref()
		ref, e := p.n.Own(at)
		want, wantE := p.w.own(at)
		p.wantRef("Own", ref, want, e, wantE)
	case 9:
		p.write(p.ref(), p.blocks(len(p.w.fresh)))
	case 10, 11:
		p.gather()
	case 12:
		most := p.next(12) - 1
		p.n.Trim(most)
		p.w.trim(most)
	case 13:
		p.settle()
	case 14:
		p.turn()
	case 15:
		p.power()
	}
	p.same()
}

// settle has both forget what was dropped.
func (p *pair) settle() {
	want := slices.Sorted(slices.Values(p.w.dropped))
	if got := p.n.Settle(); !slices.Equal(got, want) {
		p.t.Fatalf("Settle: %d; want %d", got, want)
	}
	p.w.dropped = nil
}

// same wants both to be the same in all that can be told without a change.
func (p *pair) same() {
	p.t.Helper()
	dropped := slices.Sorted(slices.Values(p.w.dropped))
	wantAll(p.t, p.n, len(p.w.fresh), len(p.w.kept), dropped...)
	if p.d.Count() != p.w.d.Count() || p.d.IsOn() != p.w.d.IsOn() || !slices.Equal(p.d.At(), p.w.d.At()) {
		p.t.Fatalf("%v, want %v; %d, want %d", p.d.Count(), p.w.d.Count(), p.d.At(), p.w.d.At())
	}
}

// end wants the devices to be the same, and all that is kept to go in the same order.
func (p *pair) end() {
	if p.d.Image() != p.w.d.Image() {
		p.t.Fatal("other images")
	}
	for _, x := range p.w.fresh {
		p.wantNode(x.ref)
	}
	p.both((*dev.Device).Come)
	for len(p.w.kept) > 0 {
		at := p.w.kept[0].ref
		p.n.Trim(len(p.w.kept) - 1)
		p.w.trim(len(p.w.kept) - 1)
		p.wantNode(at)
		p.wantRef("Drop", 0, 0, p.n.Drop(at), p.w.drop(at))
		p.same()
		if p.t.Failed() {
			return
		}
	}
}

// play does all that the tape tells.
func play(t *testing.T, size int, tape []byte) {
	p := pairOf(t, size, tape)
	for len(p.tape) > 0 && !t.Failed() {
		p.step()
	}
	p.end()
}

// P14.1 to P14.5: any steps come to what the chapter's words say.
func TestByWords(t *testing.T) {
	r := rand.New(rand.NewSource(14))
	for i := range 3000 {
		tape := make([]byte, 40+r.Intn(600))
		r.Read(tape)
		play(t, []int{1, 2, 8, 16, 64}[i%5], tape)
		if t.Failed() {
			t.Fatalf("tape %d", i)
		}
	}
}

// P14.5: trees of any form are, behind a Write, as they were, by their new numbers, in a nest that begins anew too.
func TestTreesStay(t *testing.T) {
	r := rand.New(rand.NewSource(15))
	for range 300 {
		d := dev.New(512)
		n := on(t, d)
		root := -1
		free := r.Perm(512)
		for range 1 + r.Intn(4) {
			root = grow(t, n, r, root, 3)
			want := shape(t, n, root)
			count := n.Fresh()
			blocks := free[:count]
			free = free[count:]
			root = write(t, n, root, blocks...)
			if got := shape(t, n, root); got != want {
				t.Fatalf("%s, want %s", got, want)
			}
			if got := shape(t, on(t, d), root); got != want {
				t.Fatalf("read anew: %s, want %s", got, want)
			}
			if len(free) < 100 {
				break
			}
		}
	}
}

// grow makes a tree, with the old root somewhere in it, if there is one.
func grow(t *testing.T, n *nest.Nest, r *rand.Rand, old, deep int) int {
	t.Helper()
	if deep == 0 || r.Intn(4) == 0 {
		if old >= 0 {
			return old
		}
		return put(t, n, leafOf(fmt.Sprint(r.Intn(1000))))
	}
	kids := make([]int, 1+r.Intn(4))
	at := r.Intn(len(kids))
	for i := range kids {
		below := -1
		if i == at {
			below = old
		}
		kids[i] = grow(t, n, r, below, deep-1)
	}
	return put(t, n, over(kids...))
}

// shape is all nodes below a number, told without the numbers.
func shape(t *testing.T, n *nest.Nest, ref int) string {
	t.Helper()
	x, e := n.Get(ref)
	if e != api.OK {
		t.Fatalf("Get(%d): %d", ref, e)
	}
	if x.IsLeaf() {
		return fmt.Sprint(x.Leaf().Items())
	}
	row := fmt.Sprintf("%q%v(", x.Inner().Pivots(), x.Inner().Buff().List())
	for _, kid := range x.Kids() {
		row += shape(t, n, kid) + " "
	}
	return row + ")"
}

// FuzzAny: any steps, held against the chapter's words.
func FuzzAny(f *testing.F) {
	r := rand.New(rand.NewSource(16))
	for range 20 {
		tape := make([]byte, 400)
		r.Read(tape)
		f.Add(byte(r.Intn(256)), tape)
	}
	f.Fuzz(func(t *testing.T, size byte, tape []byte) {
		play(t, 1+int(size)%32, tape[:min(len(tape), 600)])
	})
}
