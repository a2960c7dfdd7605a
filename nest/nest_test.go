package nest_test

import (
	"fmt"
	"math"
	"math/rand"
	"slices"
	"strings"
	"testing"

	"granger/api"
	"granger/dev"
	"granger/inner"
	"granger/leaf"
	"granger/msg"
	"granger/nest"
	"granger/node"
	"granger/slab"
)

// leafOf is a leaf with these keys.
func leafOf(keys ...string) *node.Node {
	var items []api.Item
	for _, k := range keys {
		items = append(items, api.Item{Key: k, Val: "v" + k})
	}
	l, e := leaf.Of(items...)
	if e != api.OK {
		panic(fmt.Sprintf("leaf.Of(%q): %d", keys, e))
	}
	return node.OfLeaf(l)
}

// heavy is a leaf that weighs more than fits.
func heavy() *node.Node {
	var keys []string
	for i := range 50 {
		keys = append(keys, fmt.Sprintf("key%03d", i))
	}
	return leafOf(keys...)
}

// over is an inner node over these kids, with a message to each of them.
func over(kids ...int) *node.Node {
	var pivots []string
	list := []api.Msg{msg.OfAdd("a", 3)}
	for i := 1; i < len(kids); i++ {
		k := fmt.Sprintf("p%06d", i)
		pivots, list = append(pivots, k), append(list, msg.OfDel(k))
	}
	n, e := inner.Of(kids, pivots, list...)
	if e != api.OK {
		panic(fmt.Sprintf("inner.Of(%d): %d", kids, e))
	}
	return node.OfInner(n)
}

// of is a nest with nothing in it, over a new device of n blocks.
func of(t *testing.T, n int) (*nest.Nest, *dev.Device) {
	t.Helper()
	d := dev.New(n)
	return on(t, d), d
}

// on is a new nest over a device.
func on(t *testing.T, d *dev.Device) *nest.Nest {
	t.Helper()
	x := nest.New(d)
	if x == nil {
		t.Fatal("New: nil")
	}
	wantAll(t, x, 0, 0)
	return x
}

// lay writes nodes to blocks of a device, past all nests.
func lay(t *testing.T, d *dev.Device, at int, x *node.Node) {
	t.Helper()
	s, e := x.Bytes()
	if e != api.OK {
		t.Fatal(e)
	}
	layText(t, d, at, s)
}

// layText writes a text as a plain block.
func layText(t *testing.T, d *dev.Device, at int, s string) {
	t.Helper()
	b, e := slab.Lay(s)
	if e != api.OK {
		t.Fatal(e)
	}
	if e := d.Write(at, b); e != api.OK {
		t.Fatal(e)
	}
}

// put puts one, which is none.
func put(t *testing.T, n *nest.Nest, x *node.Node) int {
	t.Helper()
	ref, e := n.Put(x)
	if e != api.OK {
		t.Fatalf("Put: %d", e)
	}
	return ref
}

// write writes all that is fresh, which can be.
func write(t *testing.T, n *nest.Nest, root int, blocks ...int) int {
	t.Helper()
	at, e := n.Write(root, blocks...)
	if e != api.OK {
		t.Fatalf("Write(%d, %d): %d", root, blocks, e)
	}
	return at
}

// wantAll wants so many that are fresh and kept, and just these blocks dropped.
func wantAll(t *testing.T, n *nest.Nest, fresh, kept int, dropped ...int) {
	t.Helper()
	if n.Fresh() != fresh || n.Kept() != kept || !slices.Equal(n.Dropped(), dropped) {
		t.Errorf("fresh %d, kept %d, dropped %d; want %d, %d, %d", n.Fresh(), n.Kept(), n.Dropped(), fresh, kept, dropped)
	}
}

// wantCount wants the device to have been read and written so often, and never flushed.
func wantCount(t *testing.T, d *dev.Device, reads, writes int) {
	t.Helper()
	if c := d.Count(); c != (dev.Count{Reads: reads, Writes: writes}) {
		t.Errorf("count %v; want %d reads, %d writes", c, reads, writes)
	}
}

// wantGet wants a number to be that node's.
func wantGet(t *testing.T, n *nest.Nest, ref int, want *node.Node) {
	t.Helper()
	if x, e := n.Get(ref); e != api.OK || !node.Same(x, want) {
		t.Errorf("Get(%d): %v, %d", ref, x, e)
	}
}

// wantNoGet wants that error of a Get, without a node.
func wantNoGet(t *testing.T, n *nest.Nest, ref int, want api.Errno) {
	t.Helper()
	if x, e := n.Get(ref); x != nil || e != want {
		t.Errorf("Get(%d): %v, %d; want %d", ref, x, e, want)
	}
}

// wantNoOwn wants that error of an Own, without a number.
func wantNoOwn(t *testing.T, n *nest.Nest, ref int, want api.Errno) {
	t.Helper()
	if r, e := n.Own(ref); r != 0 || e != want {
		t.Errorf("Own(%d): %d, %d; want %d", ref, r, e, want)
	}
}

// wantOwn wants an Own of a number to be that number.
func wantOwn(t *testing.T, n *nest.Nest, ref, want int) {
	t.Helper()
	if r, e := n.Own(ref); r != want || e != api.OK {
		t.Errorf("Own(%d): %d, %d; want %d", ref, r, e, want)
	}
}

// wantNoWrite wants that error of a Write, and that nothing came of it.
func wantNoWrite(t *testing.T, n *nest.Nest, d *dev.Device, want api.Errno, root int, blocks ...int) {
	t.Helper()
	fresh, kept, dropped, count := n.Fresh(), n.Kept(), n.Dropped(), d.Count()
	if at, e := n.Write(root, blocks...); at != 0 || e != want {
		t.Errorf("Write(%d, %d): %d, %d; want %d", root, blocks, at, e, want)
	}
	wantAll(t, n, fresh, kept, dropped...)
	wantCount(t, d, count.Reads, count.Writes)
}

// wantIs wants that error.
func wantIs(t *testing.T, e, want api.Errno) {
	t.Helper()
	if e != want {
		t.Errorf("%d; want %d", e, want)
	}
}

// wantKept wants just these blocks to be kept, that one first which is let go first. All of them are dropped then.
func wantKept(t *testing.T, n *nest.Nest, d *dev.Device, order ...int) {
	t.Helper()
	if n.Kept() != len(order) {
		t.Errorf("%d are kept; want %d", n.Kept(), order)
		return
	}
	// What was let go is told by a read, behind which it is kept again: so it is dropped ahead of the next one.
	for i, at := range order {
		n.Trim(len(order) - i - 1)
		if n.Kept() != len(order)-i-1 {
			t.Errorf("%d are kept behind Trim(%d)", n.Kept(), len(order)-i-1)
		}
		reads := d.Count().Reads
		n.Get(at)
		if d.Count().Reads != reads+1 {
			t.Errorf("%d wasn't let go as number %d of %d", at, i, order)
		}
		n.Drop(at)
	}
}

// P14.1: a new nest has nothing, and reads nothing.
func TestNew(t *testing.T) {
	for _, size := range []int{1, 8, 512} {
		n, d := of(t, size)
		wantCount(t, d, 0, 0)
		wantNoGet(t, n, 512, api.ErrNone)
		if l := n.Settle(); len(l) != 0 {
			t.Error(l)
		}
	}
	if nest.New(nil) != nil {
		t.Error("New(nil)")
	}
}

// P14.2: the chapter's example.
func TestExample(t *testing.T) {
	n, d := of(t, 8)
	a, b := put(t, n, leafOf("a")), put(t, n, leafOf("b"))
	if a != 512 || b != 513 {
		t.Error(a, b)
	}
	wantAll(t, n, 2, 0)
	wantGet(t, n, 512, leafOf("a"))
	wantGet(t, n, 513, leafOf("b"))
	wantCount(t, d, 0, 0)
}

// P14.1: what a block has is read, and what is no node isn't; nothing of what couldn't be read is kept.
func TestGet(t *testing.T) {
	for _, size := range []int{8, 511, 512} {
		n, d := of(t, size)
		last := size - 1
		lay(t, d, 2, leafOf("a", "b"))
		lay(t, d, 3, over(2, last, 511))
		lay(t, d, last, leafOf())
		wantGet(t, n, 2, leafOf("a", "b"))
		wantGet(t, n, 3, over(2, last, 511))
		wantGet(t, n, last, leafOf())
		wantAll(t, n, 0, 3)
		wantCount(t, d, 3, 3)
		for _, ref := range []int{-1, -2, -512, math.MinInt, size, 511} {
			if ref >= size || ref < 0 {
				want := api.ErrRange
				if ref > 511 {
					want = api.ErrNone
				}
				wantNoGet(t, n, ref, want)
				wantNoOwn(t, n, ref, want)
			}
		}
		for _, ref := range []int{512, 513, 1024, math.MaxInt} {
			wantNoGet(t, n, ref, api.ErrNone)
			wantNoOwn(t, n, ref, api.ErrNone)
		}
		wantAll(t, n, 0, 3)
		wantCount(t, d, 3, 3)
	}
}

// P14.1: zeros, a wrong sum, a text that can't be, bytes that are no node's.
func TestGetWrong(t *testing.T) {
	d := dev.New(16)
	good, e := slab.Lay("\x01\x00")
	if e != api.OK {
		t.Fatal(e)
	}
	turned := []byte(good)
	turned[0] ^= 1
	d.Write(1, string(turned))
	turned = []byte(good)
	turned[255] = 1
	d.Write(2, string(turned))
	d.Write(3, strings.Repeat("\xff", 256))
	layText(t, d, 4, "")
	layText(t, d, 5, "\x03\x00")
	layText(t, d, 6, "\x01\x00\x00")
	layText(t, d, 7, "\x02\x00\x00")
	layText(t, d, 8, "\x02\x01\x02\x00\x00")
	stamped, e := slab.Stamp(1, 0, "\x01\x00")
	if e != api.OK {
		t.Fatal(e)
	}
	d.Write(9, stamped)
	n := on(t, d)
	zero, _ := d.Read(0)
	if _, e := slab.Open(zero); e != api.ErrSum {
		t.Fatal(e)
	}
	reads := d.Count().Reads
	for at, want := range []api.Errno{api.ErrSum, api.ErrSum, api.ErrSum, api.ErrForm, api.ErrForm, api.ErrForm, api.ErrForm, api.ErrForm, api.ErrForm} {
		// Each of the two reads the block again, since it isn't kept.
		wantNoGet(t, n, at, want)
		wantNoOwn(t, n, at, want)
	}
	if got := d.Count().Reads - reads; got != 18 {
		t.Errorf("%d reads", got)
	}
	if x, e := n.Get(9); x != nil || e != api.ErrSum && e != api.ErrForm {
		t.Error(x, e)
	}
	wantAll(t, n, 0, 0)
}

// P14.1: the device's error; what is kept or fresh needs no device.
func TestGetDown(t *testing.T) {
	n, d := of(t, 8)
	lay(t, d, 1, leafOf("a"))
	lay(t, d, 2, leafOf("b"))
	d.Flush()
	ref := put(t, n, leafOf("c"))
	wantGet(t, n, 1, leafOf("a"))
	d.Cut()
	wantNoGet(t, n, 2, api.ErrDown)
	wantNoOwn(t, n, 2, api.ErrDown)
	wantNoGet(t, n, -1, api.ErrRange)
	wantNoGet(t, n, 8, api.ErrRange)
	wantGet(t, n, 1, leafOf("a"))
	wantGet(t, n, ref, leafOf("c"))
	wantAll(t, n, 1, 1)
	wantOwn(t, n, 1, 513)
	wantIs(t, n.Drop(2), api.OK)
	wantAll(t, n, 2, 0, 1, 2)
	wantNoGet(t, n, 2, api.ErrNone)
	d.Come()
	wantNoGet(t, n, 1, api.ErrNone)
	wantNoGet(t, n, 2, api.ErrNone)
}

// P14.5: a block is read once, as long as its node is kept, whatever became of the block since.
func TestReadOnce(t *testing.T) {
	n, d := of(t, 8)
	lay(t, d, 1, leafOf("a"))
	for range 5 {
		wantGet(t, n, 1, leafOf("a"))
	}
	wantCount(t, d, 1, 1)
	lay(t, d, 1, leafOf("b"))
	wantGet(t, n, 1, leafOf("a"))
	layText(t, d, 1, "no node")
	wantGet(t, n, 1, leafOf("a"))
	wantCount(t, d, 1, 3)
	n.Trim(0)
	wantNoGet(t, n, 1, api.ErrForm)
	lay(t, d, 1, leafOf("b"))
	wantGet(t, n, 1, leafOf("b"))
	wantGet(t, n, 1, leafOf("b"))
	wantCount(t, d, 3, 4)
	wantOwn(t, n, 1, 512)
	wantGet(t, n, 512, leafOf("b"))
	wantCount(t, d, 3, 4)
}

// P14.5: what was written is kept: it isn't read at all.
func TestWrittenIsKept(t *testing.T) {
	n, d := of(t, 8)
	a, b := put(t, n, leafOf("a")), put(t, n, leafOf("b"))
	c := put(t, n, over(a, b))
	if at := write(t, n, c, 6, 2, 7); at != 7 {
		t.Error(at)
	}
	wantAll(t, n, 0, 3)
	for range 2 {
		wantGet(t, n, 6, leafOf("a"))
		wantGet(t, n, 2, leafOf("b"))
		wantGet(t, n, 7, over(6, 2))
	}
	wantCount(t, d, 0, 3)
	if got := d.At(); !slices.Equal(got, []int{6, 2, 7}) {
		t.Error(got)
	}
	for _, ref := range []int{a, b, c} {
		wantNoGet(t, n, ref, api.ErrNone)
	}
	// A number that was told once isn't told again.
	if ref := put(t, n, leafOf("x")); ref != 515 {
		t.Error(ref)
	}
}

// P14.2: numbers go on, whatever becomes of those that were told.
func TestPut(t *testing.T) {
	n, _ := of(t, 8)
	for i := range 40 {
		if ref := put(t, n, leafOf(fmt.Sprint(i))); ref != 512+i {
			t.Fatal(ref)
		}
		if i%3 == 0 {
			wantIs(t, n.Drop(512+i), api.OK)
		}
		if ref, e := n.Put(nil); ref != 0 || e != api.ErrArg {
			t.Error(ref, e)
		}
	}
	wantAll(t, n, 26, 0)
	for i := range 40 {
		if i%3 == 0 {
			wantNoGet(t, n, 512+i, api.ErrNone)
		} else {
			wantGet(t, n, 512+i, leafOf(fmt.Sprint(i)))
		}
	}
	wantNoGet(t, n, 552, api.ErrNone)
}

// P14.2: what doesn't fit, and what can't be written, may be put; the same one twice too.
func TestPutAny(t *testing.T) {
	n, _ := of(t, 8)
	x := over(math.MaxInt, 600, 1, 2, 3, 4, 5, 6)
	for i, y := range []*node.Node{heavy(), x, x, leafOf()} {
		wantGet(t, n, put(t, n, y), y)
		wantAll(t, n, i+1, 0)
	}
	wantIs(t, n.Set(513, leafOf("z")), api.OK)
	wantGet(t, n, 513, leafOf("z"))
	wantGet(t, n, 514, x)
}

// P14.2: Set of fresh ones alone.
func TestSet(t *testing.T) {
	n, d := of(t, 8)
	lay(t, d, 1, leafOf("one"))
	a, b := put(t, n, leafOf("a")), put(t, n, leafOf("b"))
	wantIs(t, n.Set(a, over(1, b)), api.OK)
	wantGet(t, n, a, over(1, b))
	wantGet(t, n, b, leafOf("b"))
	wantAll(t, n, 2, 0)
	wantIs(t, n.Drop(b), api.OK)
	for _, ref := range []int{b, b + 1, 511, 8, 7, 1, 0, -1, 512 + 1000, math.MinInt, math.MaxInt} {
		wantIs(t, n.Set(ref, leafOf("z")), api.ErrNone)
		wantIs(t, n.Set(ref, nil), api.ErrArg)
	}
	wantIs(t, n.Set(a, nil), api.ErrArg)
	wantGet(t, n, a, over(1, b))
	wantNoGet(t, n, b, api.ErrNone)
	wantGet(t, n, 1, leafOf("one"))
	wantAll(t, n, 1, 1)
	wantIs(t, n.Set(1, leafOf("z")), api.ErrNone)
	wantGet(t, n, 1, leafOf("one"))
	wantIs(t, n.Set(a, leafOf("last")), api.OK)
	write(t, n, a, 3)
	wantIs(t, n.Set(a, leafOf("z")), api.ErrNone)
	wantIs(t, n.Set(3, leafOf("z")), api.ErrNone)
	wantGet(t, n, 3, leafOf("last"))
}

// P14.2: Drop of blocks and of fresh ones.
func TestDrop(t *testing.T) {
	for _, size := range []int{8, 512} {
		n, d := of(t, size)
		lay(t, d, 1, leafOf("a"))
		lay(t, d, 2, leafOf("b"))
		wantGet(t, n, 1, leafOf("a"))
		wantGet(t, n, 2, leafOf("b"))
		// One that is kept, one that can be read, one that can't.
		for i, at := range []int{2, 0, size - 1} {
			wantIs(t, n.Drop(at), api.OK)
			wantIs(t, n.Drop(at), api.ErrNone)
			wantNoGet(t, n, at, api.ErrNone)
			wantNoOwn(t, n, at, api.ErrNone)
			wantAll(t, n, 0, 1, slices.Sorted(slices.Values([]int{2, 0, size - 1}[:i+1]))...)
		}
		wantCount(t, d, 2, 2)
		wantIs(t, n.Drop(-1), api.ErrRange)
		wantIs(t, n.Drop(math.MinInt), api.ErrRange)
		for ref := size; ref < 512; ref++ {
			wantIs(t, n.Drop(ref), api.ErrRange)
		}
		wantIs(t, n.Drop(512), api.ErrNone)
		wantIs(t, n.Drop(math.MaxInt), api.ErrNone)
		ref := put(t, n, leafOf("x"))
		wantIs(t, n.Drop(ref+1), api.ErrNone)
		wantIs(t, n.Drop(ref), api.OK)
		wantIs(t, n.Drop(ref), api.ErrNone)
		wantNoGet(t, n, ref, api.ErrNone)
		wantNoOwn(t, n, ref, api.ErrNone)
		wantAll(t, n, 0, 1, 0, 2, size-1)
		// The blocks stay as they are: they are there again, once they are settled.
		n.Settle()
		wantGet(t, n, 2, leafOf("b"))
		wantCount(t, d, 3, 2)
	}
}

// P14.2: Own of blocks and of fresh ones.
func TestOwn(t *testing.T) {
	n, d := of(t, 8)
	lay(t, d, 1, leafOf("a"))
	lay(t, d, 2, over(1, 3))
	lay(t, d, 4, leafOf("d"))
	wantGet(t, n, 1, leafOf("a"))
	wantOwn(t, n, 1, 512)
	wantAll(t, n, 1, 0, 1)
	wantCount(t, d, 1, 3)
	wantOwn(t, n, 2, 513)
	wantAll(t, n, 2, 0, 1, 2)
	wantCount(t, d, 2, 3)
	wantGet(t, n, 512, leafOf("a"))
	wantGet(t, n, 513, over(1, 3))
	for range 2 {
		wantNoOwn(t, n, 1, api.ErrNone)
		wantNoOwn(t, n, 2, api.ErrNone)
		wantOwn(t, n, 513, 513)
		wantOwn(t, n, 512, 512)
	}
	wantNoOwn(t, n, 3, api.ErrSum)
	wantNoOwn(t, n, 514, api.ErrNone)
	wantNoOwn(t, n, 8, api.ErrRange)
	wantNoOwn(t, n, -1, api.ErrRange)
	wantAll(t, n, 2, 0, 1, 2)
	// An Own that wasn't OK has told no number.
	wantOwn(t, n, 4, 514)
	n.Settle()
	wantOwn(t, n, 1, 515)
	wantGet(t, n, 515, leafOf("a"))
	wantAll(t, n, 4, 0, 1)
}

// P14.3: what is asked of root and of what is reached, in the order of the sentence.
func TestWriteRefused(t *testing.T) {
	n, d := of(t, 8)
	lay(t, d, 1, leafOf("one"))
	// Nothing is fresh.
	for _, root := range []int{-1, 8, 511, 512, math.MinInt, math.MaxInt} {
		wantNoWrite(t, n, d, api.ErrNone, root)
		wantNoWrite(t, n, d, api.ErrNone, root, 9)
	}
	wantNoWrite(t, n, d, api.ErrArg, 1, 2)
	wantNoWrite(t, n, d, api.ErrArg, 1, -1)
	// One is fresh, and isn't reached.
	a := put(t, n, leafOf("a"))
	for _, root := range []int{1, 0, 7} {
		wantNoWrite(t, n, d, api.ErrState, root)
		wantNoWrite(t, n, d, api.ErrState, root, 2)
		wantNoWrite(t, n, d, api.ErrState, root, 8)
	}
	for _, root := range []int{-1, 8, 511, a + 1} {
		wantNoWrite(t, n, d, api.ErrNone, root, 2)
	}
	wantNoWrite(t, n, d, api.ErrArg, a)
	wantNoWrite(t, n, d, api.ErrArg, a, 2, 3)
	wantNoWrite(t, n, d, api.ErrArg, a, 8, 8)
	wantNoWrite(t, n, d, api.ErrRange, a, 8)
	wantNoWrite(t, n, d, api.ErrRange, a, -1)
	wantNoWrite(t, n, d, api.ErrRange, a, 512)
	wantNoWrite(t, n, d, api.ErrRange, a, math.MinInt)
	wantNoWrite(t, n, d, api.ErrRange, a, math.MaxInt)
	// Two are, and one isn't reached.
	b := put(t, n, over(a, 1))
	wantNoWrite(t, n, d, api.ErrState, a, 2, 3)
	wantNoWrite(t, n, d, api.ErrState, a, 2)
	wantNoWrite(t, n, d, api.ErrArg, b, 2)
	wantNoWrite(t, n, d, api.ErrArg, b, 2, 3, 4)
	wantNoWrite(t, n, d, api.ErrArg, b)
	wantNoWrite(t, n, d, api.ErrRange, b, 2, 8)
	wantNoWrite(t, n, d, api.ErrRange, b, 8, 2)
	wantNoWrite(t, n, d, api.ErrRange, b, 2, -1)
	wantNoWrite(t, n, d, api.ErrRange, b, -1, 2)
	wantGet(t, n, a, leafOf("a"))
	wantGet(t, n, b, over(a, 1))
	if at := write(t, n, b, 2, 7); at != 7 {
		t.Error(at)
	}
}

// P14.3: reached twice, by one node, by two, by itself, by one below; as many as there are, and not each.
func TestWriteReached(t *testing.T) {
	n, d := of(t, 8)
	a, b := put(t, n, leafOf("a")), put(t, n, leafOf("b"))
	c := put(t, n, over(a, b))
	for _, x := range []*node.Node{over(a, a), over(a, a, b), over(a, b, a), over(a), over(b, 1), over(c), over(a, b, c), over(c, c), over(1, 2), leafOf("x"), over(a, c, b), over(a, b+2), over(a, a, a, b, b, b, c)} {
		wantIs(t, n.Set(c, x), api.OK)
		wantNoWrite(t, n, d, api.ErrState, c, 1, 2, 3)
		wantNoWrite(t, n, d, api.ErrState, c, 1, 2)
		wantNoWrite(t, n, d, api.ErrState, c, 1, 2, 9)
	}
	// Round by two nodes, with root among them and below it.
	wantIs(t, n.Set(b, over(c)), api.OK)
	wantIs(t, n.Set(c, over(b, a)), api.OK)
	for _, root := range []int{b, c, a} {
		wantNoWrite(t, n, d, api.ErrState, root, 1, 2, 3)
	}
	wantIs(t, n.Set(a, over(b)), api.OK)
	wantIs(t, n.Set(c, over(b)), api.OK)
	for _, root := range []int{b, c, a} {
		wantNoWrite(t, n, d, api.ErrState, root, 1, 2, 3)
	}
	// By two ways to one leaf.
	wantIs(t, n.Set(a, leafOf("a")), api.OK)
	wantIs(t, n.Set(b, over(a)), api.OK)
	wantIs(t, n.Set(c, over(a, b)), api.OK)
	wantNoWrite(t, n, d, api.ErrState, c, 1, 2, 3)
	wantIs(t, n.Set(c, over(b, b)), api.OK)
	wantNoWrite(t, n, d, api.ErrState, c, 1, 2, 3)
	// The same block twice is no fresh node twice.
	wantIs(t, n.Set(c, over(7, b, 7)), api.OK)
	write(t, n, c, 1, 2, 3)
	wantGet(t, n, 3, over(7, 2, 7))
	wantGet(t, n, 2, over(1))
}

// P14.3: a node must fit as it will stand in its block.
func TestWriteFits(t *testing.T) {
	n, d := of(t, 512)
	a := put(t, n, heavy())
	wantNoWrite(t, n, d, api.ErrFull, a, 1)
	wantNoWrite(t, n, d, api.ErrRange, a, 512)
	// Of several, a kid and the root; nothing is written of those that fit.
	b := put(t, n, leafOf("b"))
	c := put(t, n, over(b, a))
	wantNoWrite(t, n, d, api.ErrFull, c, 1, 2, 3)
	wantIs(t, n.Set(a, leafOf("a")), api.OK)
	for _, x := range []*node.Node{over(b, a, 1, 2, 3, 4, 5), over(b, a, 512+3), over(b, a, 600), over(b, a, math.MaxInt)} {
		wantIs(t, n.Set(c, x), api.OK)
		if x.Fits() {
			t.Fatal("it fits")
		}
		wantNoWrite(t, n, d, api.ErrFull, c, 1, 2, 3)
	}
	var list []api.Msg
	for i := range 20 {
		list = append(list, msg.OfPut(fmt.Sprintf("key%03d", i), "v"))
	}
	x, e := over(b, a).Inner().Put(list...)
	wantIs(t, e, api.OK)
	wantIs(t, n.Set(c, node.OfInner(x)), api.OK)
	wantNoWrite(t, n, d, api.ErrFull, c, 1, 2, 3)
	// One that doesn't fit with its kids' numbers fits with their blocks, the last one of all among them.
	wantIs(t, n.Set(c, over(b, 0, a, 511)), api.OK)
	if y, _ := n.Get(c); y.Fits() {
		t.Error("it fits")
	}
	write(t, n, c, 511, 0, 510)
	wantGet(t, n, 510, over(511, 0, 0, 511))
	wantAll(t, n, 0, 3)
}

// P14.3: a root that is a block, with nothing fresh: nothing is done.
func TestWriteNothing(t *testing.T) {
	n, d := of(t, 8)
	lay(t, d, 1, over(7, 8, 511))
	for _, root := range []int{0, 1, 7} {
		if at := write(t, n, root); at != root {
			t.Error(at, root)
		}
	}
	wantAll(t, n, 0, 0)
	wantGet(t, n, 1, over(7, 8, 511))
	wantIs(t, n.Drop(2), api.OK)
	if at := write(t, n, 2); at != 2 {
		t.Error(at)
	}
	wantAll(t, n, 0, 1, 2)
	wantCount(t, d, 1, 1)
	d.Cut()
	if at := write(t, n, 1, []int{}...); at != 1 {
		t.Error(at)
	}
}

// P14.3, P14.5: kids ahead of the node whose kids they are, from the first one on; a new nest reads the same.
func TestWriteLevels(t *testing.T) {
	n, d := of(t, 64)
	lay(t, d, 9, leafOf("nine"))
	leaves := make([]int, 7)
	// They are put in another order than they are written.
	for i := 6; i >= 0; i-- {
		leaves[i] = put(t, n, leafOf(fmt.Sprint("leaf", i)))
	}
	root := put(t, n, leafOf())
	right := put(t, n, over(leaves[3], 9, leaves[4]))
	left := put(t, n, over(leaves[0], leaves[1], leaves[2]))
	deep := put(t, n, over(leaves[6]))
	mid := put(t, n, over(leaves[5], deep))
	wantIs(t, n.Set(root, over(left, 9, right, mid)), api.OK)
	blocks := []int{20, 19, 18, 30, 17, 16, 31, 15, 14, 32, 33, 40}
	if at := write(t, n, root, blocks...); at != 40 {
		t.Error(at)
	}
	if got := d.At()[1:]; !slices.Equal(got, blocks) {
		t.Error(got)
	}
	fresh := on(t, d)
	for _, x := range []*nest.Nest{n, fresh} {
		wantGet(t, x, 40, over(30, 9, 31, 33))
		wantGet(t, x, 30, over(20, 19, 18))
		wantGet(t, x, 31, over(17, 9, 16))
		wantGet(t, x, 33, over(15, 32))
		wantGet(t, x, 32, over(14))
		for i, at := range []int{20, 19, 18, 17, 16, 15, 14} {
			wantGet(t, x, at, leafOf(fmt.Sprint("leaf", i)))
		}
	}
	wantAll(t, n, 0, 12)
	wantAll(t, fresh, 0, 12)
	wantCount(t, d, 12, 13)
}

// P14.3: blocks that were dropped, that are kept, that are told twice.
func TestWriteBlocks(t *testing.T) {
	n, d := of(t, 8)
	lay(t, d, 1, leafOf("one"))
	lay(t, d, 2, leafOf("two"))
	wantGet(t, n, 1, leafOf("one"))
	wantGet(t, n, 2, leafOf("two"))
	a := put(t, n, leafOf("a"))
	wantIs(t, n.Drop(1), api.OK)
	wantIs(t, n.Drop(3), api.OK)
	wantIs(t, n.Drop(4), api.OK)
	b := put(t, n, over(a, 4))
	// A block that was dropped, and one that is kept.
	if at := write(t, n, b, 1, 2); at != 2 {
		t.Error(at)
	}
	wantAll(t, n, 0, 2, 3, 4)
	wantGet(t, n, 1, leafOf("a"))
	wantGet(t, n, 2, over(1, 4))
	wantIs(t, n.Drop(1), api.OK)
	wantAll(t, n, 0, 1, 1, 3, 4)
	// One block twice: both are written, the later one stands there.
	x := put(t, n, leafOf("x"))
	y := put(t, n, over(x, 6))
	writes := d.Count().Writes
	if at := write(t, n, y, 5, 5); at != 5 {
		t.Error(at)
	}
	if got := d.Count().Writes - writes; got != 2 {
		t.Errorf("%d writes", got)
	}
	wantAll(t, n, 0, 2, 1, 3, 4)
	wantGet(t, n, 5, over(5, 6))
	wantGet(t, on(t, d), 5, over(5, 6))
	wantKept(t, n, d, 2, 5)
}

// P14.3: a block that was dropped stays so, if it is but a kid of what is written.
func TestWriteOfDroppedKid(t *testing.T) {
	n, d := of(t, 8)
	lay(t, d, 1, leafOf("one"))
	wantIs(t, n.Drop(1), api.OK)
	a := put(t, n, over(1, 2))
	write(t, n, a, 3)
	wantAll(t, n, 0, 1, 1)
	wantNoGet(t, n, 1, api.ErrNone)
	wantGet(t, n, 3, over(1, 2))
}

// P14.3: the device's error in each write: what was written is written, the nest is as it was.
func TestWriteDown(t *testing.T) {
	for fuse := range 4 {
		n, d := of(t, 8)
		lay(t, d, 2, leafOf("two"))
		d.Flush()
		wantGet(t, n, 2, leafOf("two"))
		wantIs(t, n.Drop(5), api.OK)
		a, b := put(t, n, leafOf("a")), put(t, n, leafOf("b"))
		c := put(t, n, over(a, b))
		d.Fuse(fuse, slices.Repeat([]bool{true}, 64)...)
		before := d.Count().Writes
		at, e := n.Write(c, 5, 2, 7)
		if d.Count().Writes-before != min(fuse, 3) {
			t.Error(d.Count())
		}
		if fuse == 3 {
			wantIs(t, e, api.OK)
			wantAll(t, n, 0, 3)
			continue
		}
		if at != 0 || e != api.ErrDown {
			t.Error(at, e)
		}
		wantAll(t, n, 3, 1, 5)
		wantGet(t, n, 2, leafOf("two"))
		wantGet(t, n, a, leafOf("a"))
		wantGet(t, n, b, leafOf("b"))
		wantGet(t, n, c, over(a, b))
		wantNoGet(t, n, 5, api.ErrNone)
		// What was written is written: all sectors were kept.
		d.Come()
		for i, at := range []int{5, 2, 7} {
			want := []*node.Node{leafOf("a"), leafOf("b"), over(5, 2)}[i]
			if got, e := on(t, d).Get(at); (e == api.OK && node.Same(got, want)) != (i < fuse) {
				t.Errorf("fuse %d: block %d: %v, %d", fuse, at, got, e)
			}
		}
		// It goes on from there, with other blocks.
		if at := write(t, n, c, 1, 3, 4); at != 4 {
			t.Error(at)
		}
		wantGet(t, n, 4, over(1, 3))
		wantAll(t, n, 0, 4, 5)
	}
}

// P14.3: the power that was away ahead of a Write.
func TestWriteAway(t *testing.T) {
	n, d := of(t, 8)
	a := put(t, n, leafOf("a"))
	d.Cut()
	wantNoWrite(t, n, d, api.ErrDown, a, 1)
	wantNoWrite(t, n, d, api.ErrRange, a, 8)
	wantIs(t, n.Set(a, heavy()), api.OK)
	wantNoWrite(t, n, d, api.ErrFull, a, 1)
}

// P14.3: twice: the second one has what came between, and the numbers of the first one are none.
func TestWriteTwice(t *testing.T) {
	n, d := of(t, 16)
	a, b := put(t, n, leafOf("a")), put(t, n, leafOf("b"))
	c := put(t, n, over(a, b))
	root := write(t, n, c, 1, 2, 3)
	wantNoWrite(t, n, d, api.ErrNone, c)
	wantNoWrite(t, n, d, api.ErrNone, c, 1, 2, 3)
	if at := write(t, n, root); at != root {
		t.Error(at)
	}
	wantCount(t, d, 0, 3)
	own, e := n.Own(root)
	wantIs(t, e, api.OK)
	kid, e := n.Own(2)
	wantIs(t, e, api.OK)
	if own != 515 || kid != 516 {
		t.Error(own, kid)
	}
	wantIs(t, n.Set(kid, leafOf("b", "c")), api.OK)
	wantIs(t, n.Set(own, over(1, kid)), api.OK)
	wantAll(t, n, 2, 1, 2, 3)
	if at := write(t, n, own, 4, 5); at != 5 {
		t.Error(at)
	}
	wantAll(t, n, 0, 3, 2, 3)
	wantGet(t, n, 5, over(1, 4))
	wantCount(t, d, 0, 5)
	x := on(t, d)
	wantGet(t, x, 5, over(1, 4))
	wantGet(t, x, 4, leafOf("b", "c"))
	wantGet(t, x, 1, leafOf("a"))
	// The old tree stands, since its blocks weren't written.
	wantGet(t, x, 3, over(1, 2))
	wantGet(t, x, 2, leafOf("b"))
}

// P14.4: Settle and Dropped tell blocks, rising, whatever the order; Settle forgets them.
func TestSettle(t *testing.T) {
	n, d := of(t, 512)
	if l := n.Settle(); len(l) != 0 {
		t.Error(l)
	}
	for _, at := range []int{300, 0, 511, 7, 1, 510} {
		wantIs(t, n.Drop(at), api.OK)
	}
	put(t, n, leafOf("a"))
	want := []int{0, 1, 7, 300, 510, 511}
	for range 2 {
		if got := n.Dropped(); !slices.Equal(got, want) {
			t.Error(got)
		}
	}
	if got := n.Settle(); !slices.Equal(got, want) {
		t.Error(got)
	}
	wantAll(t, n, 1, 0)
	if l := n.Settle(); len(l) != 0 {
		t.Error(l)
	}
	// They are blocks as others again.
	lay(t, d, 7, leafOf("seven"))
	wantGet(t, n, 7, leafOf("seven"))
	wantNoGet(t, n, 300, api.ErrSum)
	wantIs(t, n.Drop(511), api.OK)
	wantAll(t, n, 1, 1, 511)
	// Fresh ones that were dropped are none of them.
	wantIs(t, n.Drop(512), api.OK)
	wantAll(t, n, 0, 1, 511)
}

// P14.4: what was handed out is the caller's.
func TestAnswersAreNew(t *testing.T) {
	n, _ := of(t, 8)
	for _, at := range []int{5, 3, 4} {
		n.Drop(at)
	}
	for range 2 {
		l := n.Dropped()
		for i := range l {
			l[i] = -7
		}
		_ = append(l[:0], 9, 9, 9)
		wantAll(t, n, 0, 0, 3, 4, 5)
	}
	l := n.Settle()
	n.Drop(1)
	n.Drop(2)
	n.Drop(3)
	if !slices.Equal(l, []int{3, 4, 5}) {
		t.Error(l)
	}
	l[0], l[1], l[2] = 0, 0, 0
	wantAll(t, n, 0, 0, 1, 2, 3)
}

// roomy is a list with spare room, whose content is told as well.
func roomy(list ...int) []int {
	row := append(slices.Clone(list), 77, 78, 79)
	return row[:len(list)]
}

// P14.3, P14.5: what was handed in is neither changed nor kept.
func TestHandedIn(t *testing.T) {
	n, d := of(t, 16)
	kids := roomy(1, 2)
	x, e := inner.Of(kids, []string{"m"})
	wantIs(t, e, api.OK)
	top := node.OfInner(x)
	a := put(t, n, leafOf("a"))
	b := put(t, n, top)
	c := put(t, n, over(b, a))
	blocks := roomy(6, 5, 4)
	if at := write(t, n, c, blocks...); at != 4 {
		t.Error(at)
	}
	if !slices.Equal(blocks[:6], []int{6, 5, 4, 77, 78, 79}) {
		t.Error(blocks[:6])
	}
	for i := range blocks[:6] {
		blocks[:6][i] = 9
	}
	kids[0], kids[1] = 9, 9
	for _, m := range []*nest.Nest{n, on(t, d)} {
		wantGet(t, m, 4, over(6, 5))
		wantGet(t, m, 5, leafOf("a"))
		y, e := m.Get(6)
		if e != api.OK || !slices.Equal(y.Kids(), []int{1, 2}) {
			t.Error(y.Kids(), e)
		}
	}
	// A node that was put is as it was, with the numbers that it had.
	if !slices.Equal(top.Kids(), []int{1, 2}) {
		t.Error(top.Kids())
	}
	p := over(put(t, n, leafOf("z")))
	write(t, n, put(t, n, p), roomy(10, 11)...)
	if !slices.Equal(p.Kids(), []int{515}) {
		t.Error(p.Kids())
	}
	wantGet(t, n, 11, over(10))
}

// P14.4: Trim lets go of that one which was got, or written, longest ago.
func TestTrim(t *testing.T) {
	n, d := of(t, 16)
	for at := range 10 {
		lay(t, d, at, leafOf(fmt.Sprint(at)))
	}
	for _, at := range []int{3, 1, 4, 5, 9, 2, 6} {
		wantGet(t, n, at, leafOf(fmt.Sprint(at)))
	}
	for _, most := range []int{math.MaxInt, 100, 8, 7} {
		n.Trim(most)
		wantAll(t, n, 0, 7)
	}
	// What was kept is got again, some of it twice.
	for _, at := range []int{4, 3, 4, 6} {
		wantGet(t, n, at, leafOf(fmt.Sprint(at)))
	}
	wantCount(t, d, 7, 10)
	n.Trim(5)
	wantAll(t, n, 0, 5)
	wantKept(t, n, d, 9, 2, 3, 4, 6)
	wantAll(t, n, 0, 0, 2, 3, 4, 6, 9)
}

// P14.4: Trim of none, and of fewer than none; what is fresh or dropped stays so.
func TestTrimToNone(t *testing.T) {
	for _, most := range []int{0, -1, math.MinInt} {
		n, d := of(t, 8)
		n.Trim(most)
		wantAll(t, n, 0, 0)
		for at := range 4 {
			lay(t, d, at, leafOf(fmt.Sprint(at)))
			wantGet(t, n, at, leafOf(fmt.Sprint(at)))
		}
		ref := put(t, n, leafOf("x"))
		wantIs(t, n.Drop(1), api.OK)
		n.Trim(most)
		wantAll(t, n, 1, 0, 1)
		n.Trim(most)
		wantGet(t, n, ref, leafOf("x"))
		wantCount(t, d, 4, 4)
		for range 2 {
			wantGet(t, n, 3, leafOf("3"))
		}
		wantCount(t, d, 5, 4)
	}
}

// P14.4: what is written counts as it is written, one by one; a Get that fails, an Own and a Write that fails count for nothing.
func TestTrimOfWritten(t *testing.T) {
	n, d := of(t, 16)
	lay(t, d, 9, leafOf("nine"))
	lay(t, d, 8, leafOf("eight"))
	lay(t, d, 7, leafOf("seven"))
	wantGet(t, n, 9, leafOf("nine"))
	wantGet(t, n, 8, leafOf("eight"))
	wantGet(t, n, 7, leafOf("seven"))
	a, b := put(t, n, leafOf("a")), put(t, n, leafOf("b"))
	c := put(t, n, over(b, a, 9))
	wantGet(t, n, 8, leafOf("eight"))
	wantNoWrite(t, n, d, api.ErrArg, c, 9, 7)
	wantGet(t, n, a, leafOf("a"))
	// Block 7 is kept, and written now.
	write(t, n, c, 5, 7, 4)
	wantNoGet(t, n, 15, api.ErrSum)
	wantIs(t, n.Drop(6), api.OK)
	wantKept(t, n, d, 9, 8, 5, 7, 4)
}

// P14.4: what was dropped isn't let go a second time, the others' order stays.
func TestTrimBehindDrop(t *testing.T) {
	n, d := of(t, 64)
	for at := range 40 {
		lay(t, d, at, leafOf(fmt.Sprint(at)))
		wantGet(t, n, at, leafOf(fmt.Sprint(at)))
	}
	r := rand.New(rand.NewSource(14))
	order := make([]int, 40)
	for i := range order {
		order[i] = i
	}
	for range 200 {
		at := order[r.Intn(len(order))]
		wantGet(t, n, at, leafOf(fmt.Sprint(at)))
		order = append(slices.DeleteFunc(order, func(x int) bool { return x == at }), at)
		if r.Intn(8) == 0 {
			i := r.Intn(len(order))
			wantIs(t, n.Drop(order[i]), api.OK)
			order = slices.Delete(order, i, i+1)
		}
		if len(order) == 10 {
			break
		}
	}
	wantCount(t, d, 40, 40)
	wantKept(t, n, d, order...)
}

// P14.1 to P14.4, P1: all calls of a nil nest.
func TestNil(t *testing.T) {
	var n *nest.Nest
	for _, ref := range []int{math.MinInt, -1, 0, 511, 512, math.MaxInt} {
		wantNoGet(t, n, ref, api.ErrNil)
		wantNoOwn(t, n, ref, api.ErrNil)
		wantIs(t, n.Drop(ref), api.ErrNil)
		wantIs(t, n.Set(ref, leafOf("a")), api.ErrNil)
		wantIs(t, n.Set(ref, nil), api.ErrNil)
		for _, blocks := range [][]int{nil, {1}, {-1, 512}} {
			if at, e := n.Write(ref, blocks...); at != 0 || e != api.ErrNil {
				t.Error(at, e)
			}
		}
		n.Trim(ref)
	}
	for _, x := range []*node.Node{nil, leafOf("a")} {
		if ref, e := n.Put(x); ref != 0 || e != api.ErrNil {
			t.Error(ref, e)
		}
	}
	if n.Settle() != nil || n.Dropped() != nil || n.Fresh() != 0 || n.Kept() != 0 {
		t.Error("a nil nest has something")
	}
}

// P1: a way down of very many nodes, and very many kids.
func TestMany(t *testing.T) {
	n, d := of(t, 512)
	const many = 200_000
	last := put(t, n, leafOf("a"))
	for range many {
		last = put(t, n, over(last))
	}
	wantAll(t, n, many+1, 0)
	wantNoWrite(t, n, d, api.ErrArg, last, 1, 2, 3)
	blocks := make([]int, many+1)
	for i := range blocks {
		blocks[i] = i % 512
	}
	if at := write(t, n, last, blocks...); at != many%512 {
		t.Error(at)
	}
	wantAll(t, n, 0, 512)
	wantCount(t, d, 0, many+1)
	wantGet(t, n, many%512, over(many%512-1))
	kids := make([]int, many)
	for i := range kids {
		kids[i] = put(t, n, leafOf("a"))
	}
	top := put(t, n, over(kids...))
	wantNoWrite(t, n, d, api.ErrArg, top, 1)
	wantNoWrite(t, n, d, api.ErrFull, top, blocks...)
	wantIs(t, n.Drop(kids[many/2]), api.OK)
	wantNoWrite(t, n, d, api.ErrFull, top, blocks[:many]...)
	wantNoWrite(t, n, d, api.ErrState, kids[0], blocks[:many]...)
}
