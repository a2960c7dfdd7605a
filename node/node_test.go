package node_test

import (
	"encoding/binary"
	"fmt"
	"math"
	"math/rand"
	"slices"
	"strings"
	"testing"

	"granger/api"
	"granger/inner"
	"granger/leaf"
	"granger/msg"
	"granger/node"
	"granger/slab"
)

// plain is what a node has: a leaf its items, an inner node its kids, its pivots and its messages.
type plain struct {
	isLeaf bool
	items  []api.Item
	kids   []int
	pivots []string
	list   []api.Msg
}

// long is a text of so many bytes.
func long(n int) string {
	return strings.Repeat("x", n)
}

// number is a number's value, the highest byte first.
func number(n uint64) string {
	return string(binary.BigEndian.AppendUint64(nil, n))
}

// of is the node with these, which can be.
func of(t *testing.T, p plain) *node.Node {
	t.Helper()
	var n *node.Node
	if p.isLeaf {
		l, e := leaf.Of(p.items...)
		if e != api.OK {
			t.Fatalf("leaf.Of(%#v): %d", p.items, e)
		}
		n = node.OfLeaf(l)
	} else {
		x, e := inner.Of(p.kids, p.pivots, p.list...)
		if e != api.OK {
			t.Fatalf("inner.Of(%d, %q, %#v): %d", p.kids, p.pivots, p.list, e)
		}
		n = node.OfInner(x)
	}
	if n == nil {
		t.Fatalf("no node of %#v", p)
	}
	return n
}

// leafOf is a leaf with these items.
func leafOf(items ...api.Item) plain {
	return plain{isLeaf: true, items: items}
}

// some is a leaf of several items, with keys and values of the edges.
func some() plain {
	return leafOf(api.Item{Key: "\x00"}, api.Item{Key: "a", Val: "b"}, api.Item{Key: "ab", Val: number(258)}, api.Item{Key: "abcdefgh", Val: long(16)}, api.Item{Key: "\xff", Val: "\x00\xff"})
}

// someBytes is what stands in a block of it.
func someBytes() string {
	return "\x01\x05" + "\x01\x00\x00" + "\x01a\x01b" + "\x02ab\x08\x00\x00\x00\x00\x00\x00\x01\x02" + "\x08abcdefgh\x10xxxxxxxxxxxxxxxx" + "\x01\xff\x02\x00\xff"
}

// three is an inner node of three kids, with messages of all kinds.
func three() plain {
	return plain{kids: []int{0, 258, 511}, pivots: []string{"g", "pqrstuvw"}, list: []api.Msg{msg.OfPut("a", "1"), msg.OfPut("b", ""), msg.OfAdd("g", 7), msg.OfDel("x")}}
}

// threeBytes is what stands in a block of it.
func threeBytes() string {
	return "\x02\x03" + "\x00\x00\x01\x02\x01\xff" + "\x01g\x08pqrstuvw" + "\x04" + "\x01\x01a\x011" + "\x01\x01b\x00" + "\x03\x01g\x08\x00\x00\x00\x00\x00\x00\x00\x07" + "\x02\x01x\x00"
}

// kidsOf is an inner node of so many kids, with a Del to each pivot.
func kidsOf(count int) plain {
	p := plain{kids: make([]int, count)}
	for i := range count {
		p.kids[i] = 500 - i
		if i > 0 {
			k := number(uint64(i))
			p.pivots, p.list = append(p.pivots, k), append(p.list, msg.OfDel(k))
		}
	}
	return p
}

// heavyLeaf is a leaf of ten items that weigh 240 and so many more, but for at most 13.
func heavyLeaf(more int) plain {
	p := leafOf(api.Item{Key: "a", Val: long(3 + more)})
	for i := range 9 {
		p.items = append(p.items, api.Item{Key: "bbbbbbb" + string(rune('a'+i)), Val: long(16)})
	}
	return p
}

// heavyBuff is an inner node whose seven messages weigh 180 and so many more, but for at most 9.
func heavyBuff(more int) plain {
	p := plain{kids: []int{3, 4}, pivots: []string{"b"}, list: []api.Msg{msg.OfPut("aaaaaaaa", long(7+more))}}
	for i := range 6 {
		p.list = append(p.list, msg.OfPut("bbbbbbb"+string(rune('a'+i)), long(16)))
	}
	return p
}

// manyItems is a leaf of so many items of weight 3.
func manyItems(count int) plain {
	p := leafOf()
	for i := range count {
		p.items = append(p.items, api.Item{Key: string([]byte{byte(i)})})
	}
	return p
}

// manyMsgs is an inner node of so many messages of weight 4.
func manyMsgs(count int) plain {
	p := plain{kids: []int{9}}
	for i := range count {
		p.list = append(p.list, msg.OfDel(string([]byte{byte(i)})))
	}
	return p
}

// fitting are nodes that fit, with all edges of what does.
func fitting() []plain {
	row := []plain{
		leafOf(), leafOf(api.Item{Key: "a", Val: "b"}), some(), heavyLeaf(-1), heavyLeaf(0), manyItems(80),
		{kids: []int{0}}, {kids: []int{511}}, {kids: []int{511, 511, 511}, pivots: []string{"a", "b"}}, three(), heavyBuff(-1), heavyBuff(0), manyMsgs(45),
		{kids: []int{1}, list: []api.Msg{msg.OfAdd("abcdefgh", math.MaxUint64)}},
	}
	for count := range 6 {
		row = append(row, kidsOf(count+1))
	}
	return append(row, greatest())
}

// greatest is an inner node that fits, with as many bytes as can be.
func greatest() plain {
	p := plain{kids: []int{511, 510, 509, 508, 507, 506}, list: heavyBuff(0).list}
	for i := range 5 {
		p.pivots = append(p.pivots, "bbbbbbb"+string(rune('a'+i)))
	}
	return p
}

// unfit are nodes that don't fit, by one of what they have alone.
func unfit() []plain {
	row := []plain{
		heavyLeaf(1), heavyLeaf(13), manyItems(81), manyItems(256), kidsOf(7), kidsOf(8), kidsOf(256), heavyBuff(1), heavyBuff(9), manyMsgs(46), manyMsgs(256),
		{kids: []int{512}}, {kids: []int{513}}, {kids: []int{1 << 16}}, {kids: []int{1 << 32}}, {kids: []int{math.MaxInt}},
	}
	for i := range 6 {
		p := kidsOf(6)
		p.kids[i] = 512
		row = append(row, p)
	}
	return row
}

// fitsByWords tells whether a node fits.
func fitsByWords(p plain) bool {
	weight := 0
	for _, x := range p.items {
		weight += 2 + len(x.Key) + len(x.Val)
	}
	if p.isLeaf {
		return weight <= 240
	}
	for _, m := range p.list {
		weight += 3 + len(m.Key) + len(m.Val)
	}
	for _, kid := range p.kids {
		if kid > 511 {
			return false
		}
	}
	return weight <= 180 && len(p.kids) <= 6
}

// textByWords is a text's bytes.
func textByWords(s string) string {
	return string([]byte{byte(len(s))}) + s
}

// bytesByWords is the bytes of what fits, whether it can be or not.
func bytesByWords(p plain) string {
	if p.isLeaf {
		s := string([]byte{1, byte(len(p.items))})
		for _, x := range p.items {
			s += textByWords(x.Key) + textByWords(x.Val)
		}
		return s
	}
	s := string([]byte{2, byte(len(p.kids))})
	for _, kid := range p.kids {
		s += string([]byte{byte(kid / 256), byte(kid % 256)})
	}
	for _, k := range p.pivots {
		s += textByWords(k)
	}
	s += string([]byte{byte(len(p.list))})
	for _, m := range p.list {
		s += string([]byte{byte(m.Kind)}) + textByWords(m.Key) + textByWords(m.Val)
	}
	return s
}

// rest is bytes that are gone through one by one; bad, once one was asked for that isn't there.
type rest struct {
	s   string
	bad bool
}

func (r *rest) num() int {
	if r.s == "" {
		r.bad = true
		return 0
	}
	n := int(r.s[0])
	r.s = r.s[1:]
	return n
}

func (r *rest) text() string {
	n := r.num()
	if n > len(r.s) {
		r.bad, r.s = true, ""
		return ""
	}
	s := r.s[:n]
	r.s = r.s[n:]
	return s
}

// rise tells whether all are keys, each above the one ahead of it.
func rise(keys []string) bool {
	for i, k := range keys {
		if k == "" || len(k) > 8 || i > 0 && keys[i-1] >= k {
			return false
		}
	}
	return true
}

// canBe tells whether a message of that kind may have that value.
func canBe(m api.Msg) bool {
	return m.Kind == 1 && len(m.Val) <= 16 || m.Kind == 2 && m.Val == "" || m.Kind == 3 && len(m.Val) == 8
}

// parseByWords is the node that fits whose bytes are s; false, if there is none.
func parseByWords(s string) (plain, bool) {
	r := &rest{s: s}
	var p plain
	ok := false
	switch r.num() {
	case 1:
		p, ok = leafByWords(r)
	case 2:
		p, ok = innerByWords(r)
	}
	return p, ok && !r.bad && r.s == "" && fitsByWords(p)
}

func leafByWords(r *rest) (plain, bool) {
	p, ok := leafOf(), true
	var keys []string
	for range r.num() {
		k := r.text()
		v := r.text()
		ok = ok && len(v) <= 16
		keys, p.items = append(keys, k), append(p.items, api.Item{Key: k, Val: v})
	}
	return p, ok && rise(keys)
}

func innerByWords(r *rest) (plain, bool) {
	var p plain
	count := r.num()
	for range count {
		high := r.num()
		p.kids = append(p.kids, high*256+r.num())
	}
	for range count - 1 {
		p.pivots = append(p.pivots, r.text())
	}
	ok := true
	var keys []string
	for range r.num() {
		kind := r.num()
		k := r.text()
		m := api.Msg{Kind: kind, Key: k, Val: r.text()}
		ok = ok && canBe(m)
		keys, p.list = append(keys, k), append(p.list, m)
	}
	return p, ok && count > 0 && rise(p.pivots) && rise(keys)
}

// want looks whether a node has just these, by all calls that tell of them.
func want(t *testing.T, n *node.Node, p plain) {
	t.Helper()
	if n == nil {
		t.Fatalf("no node, want one of %#v", p)
	}
	if n.IsLeaf() != p.isLeaf || (n.Leaf() != nil) != p.isLeaf || (n.Inner() == nil) != p.isLeaf {
		t.Fatalf("IsLeaf is %v, the leaf is %v, the inner node is %v, want of %#v", n.IsLeaf(), n.Leaf(), n.Inner(), p)
	}
	if !slices.Equal(n.Kids(), p.kids) {
		t.Fatalf("the kids are %d, want %d", n.Kids(), p.kids)
	}
	if !slices.Equal(n.Leaf().Items(), p.items) {
		t.Fatalf("the items are %#v, want %#v", n.Leaf().Items(), p.items)
	}
	if !slices.Equal(n.Inner().Kids(), p.kids) || !slices.Equal(n.Inner().Pivots(), p.pivots) || !slices.Equal(n.Inner().Buff().List(), p.list) {
		t.Fatalf("%d, %q, %#v, want %#v", n.Inner().Kids(), n.Inner().Pivots(), n.Inner().Buff().List(), p)
	}
	if n.Fits() != fitsByWords(p) {
		t.Fatalf("Fits is %v of %#v", n.Fits(), p)
	}
}

// wantBytes looks at a node's bytes: those of the chapter, that are read as it was, or ErrFull.
func wantBytes(t *testing.T, p plain) {
	t.Helper()
	n := of(t, p)
	s, e := n.Bytes()
	if !fitsByWords(p) {
		if e != api.ErrFull || s != "" {
			t.Fatalf("Bytes of %#v is %q, %d, want ErrFull", p, s, e)
		}
		return
	}
	if e != api.OK || s != bytesByWords(p) {
		t.Fatalf("Bytes of %#v is %q, %d, want %q", p, s, e, bytesByWords(p))
	}
	if len(s) > slab.MaxBody {
		t.Fatalf("%d bytes of %#v", len(s), p)
	}
	m, e := node.Parse(s)
	if e != api.OK || !node.Same(m, n) || !node.Same(n, m) {
		t.Fatalf("Parse(%q): %d, want %#v", s, e, p)
	}
	want(t, m, p)
	if again, e := n.Bytes(); again != s || e != api.OK {
		t.Fatalf("Bytes again is %q, %d", again, e)
	}
}

// wantParse holds Parse against the chapter's words.
func wantParse(t *testing.T, s string) bool {
	t.Helper()
	n, e := node.Parse(s)
	p, ok := parseByWords(s)
	if !ok {
		if n != nil || e != api.ErrForm {
			t.Fatalf("Parse(%q) is %v, %d, want ErrForm", s, n, e)
		}
		return false
	}
	if e != api.OK {
		t.Fatalf("Parse(%q): %d, want %#v", s, e, p)
	}
	want(t, n, p)
	if b, e := n.Bytes(); e != api.OK || b != s {
		t.Fatalf("what was read of %q is written as %q, %d", s, b, e)
	}
	return true
}

// wantForm looks whether there is no node of these bytes, by the words of the test and of the chapter.
func wantForm(t *testing.T, s string) {
	t.Helper()
	if n, e := node.Parse(s); n != nil || e != api.ErrForm {
		t.Errorf("Parse(%q) is %v, %d, want ErrForm", s, n, e)
	}
	wantParse(t, s)
}

// P12.1: nodes that fit and such as don't are what they were made of.
func TestOf(t *testing.T) {
	for _, p := range append(fitting(), unfit()...) {
		want(t, of(t, p), p)
	}
	l, _ := leaf.Of(some().items...)
	if n := node.OfLeaf(l); !leaf.Same(n.Leaf(), l) || n.Inner() != nil || !n.IsLeaf() || len(n.Kids()) != 0 {
		t.Error("of a leaf")
	}
	x, _ := inner.Of(three().kids, three().pivots, three().list...)
	if n := node.OfInner(x); !inner.Same(n.Inner(), x) || n.Leaf() != nil || n.IsLeaf() || !slices.Equal(n.Kids(), []int{0, 258, 511}) {
		t.Error("of an inner node")
	}
}

// P12.1: nil of nil.
func TestOfNil(t *testing.T) {
	if node.OfLeaf(nil) != nil || node.OfInner(nil) != nil {
		t.Error("a node of nil")
	}
	l, _ := leaf.Of(api.Item{})
	x, _ := inner.Of(nil, nil)
	if node.OfLeaf(l) != nil || node.OfInner(x) != nil {
		t.Error("a node of what can't be")
	}
}

// P12.1: the edges that the chapter names, each by its own number.
func TestFits(t *testing.T) {
	for i, c := range []struct {
		p    plain
		fits bool
	}{
		{leafOf(), true}, {leafOf(api.Item{Key: "a"}), true}, {heavyLeaf(-1), true}, {heavyLeaf(0), true}, {heavyLeaf(1), false}, {heavyLeaf(2), false}, {manyItems(80), true}, {manyItems(81), false},
		{kidsOf(1), true}, {kidsOf(2), true}, {kidsOf(5), true}, {kidsOf(6), true}, {kidsOf(7), false}, {kidsOf(12), false},
		{plain{kids: []int{0}}, true}, {plain{kids: []int{510}}, true}, {plain{kids: []int{511}}, true}, {plain{kids: []int{512}}, false}, {plain{kids: []int{513}}, false}, {plain{kids: []int{math.MaxInt}}, false},
		{plain{kids: []int{511, 1}, pivots: []string{"k"}}, true}, {plain{kids: []int{512, 1}, pivots: []string{"k"}}, false}, {plain{kids: []int{1, 511}, pivots: []string{"k"}}, true}, {plain{kids: []int{1, 512}, pivots: []string{"k"}}, false}, {plain{kids: []int{1, 512, 1}, pivots: []string{"k", "l"}}, false},
		{heavyBuff(-1), true}, {heavyBuff(0), true}, {heavyBuff(1), false}, {heavyBuff(2), false}, {manyMsgs(0), true}, {manyMsgs(45), true}, {manyMsgs(46), false},
	} {
		n := of(t, c.p)
		if n.Fits() != c.fits {
			t.Errorf("%d: Fits is %v of %#v", i, n.Fits(), c.p)
		}
		s, e := n.Bytes()
		if (e == api.OK) != c.fits || (e == api.ErrFull) == c.fits || (s == "") == c.fits {
			t.Errorf("%d: Bytes is %q, %d", i, s, e)
		}
	}
}

// The weights of the nodes at the edges are what the edges say.
func TestEdgeWeights(t *testing.T) {
	for more := -1; more <= 1; more++ {
		if w := of(t, heavyLeaf(more)).Leaf().Weight(); w != api.LeafMax+more {
			t.Errorf("a leaf of weight %d", w)
		}
		if w := of(t, heavyBuff(more)).Inner().Buff().Weight(); w != api.BufMax+more {
			t.Errorf("a buffer of weight %d", w)
		}
	}
}

// P12.2: the chapter's example, and bytes that are told one by one.
func TestBytes(t *testing.T) {
	for _, c := range []struct {
		p    plain
		want string
	}{
		{leafOf(api.Item{Key: "a", Val: "b"}), "\x01\x01\x01\x61\x01\x62"}, {leafOf(), "\x01\x00"}, {leafOf(api.Item{Key: "b"}, api.Item{Key: "a", Val: "\x00"}), "\x01\x02\x01a\x01\x00\x01b\x00"}, {some(), someBytes()},
		{plain{kids: []int{0}}, "\x02\x01\x00\x00\x00"}, {plain{kids: []int{511}}, "\x02\x01\x01\xff\x00"}, {plain{kids: []int{256, 255}, pivots: []string{"k"}}, "\x02\x02\x01\x00\x00\xff\x01k\x00"}, {three(), threeBytes()},
		{plain{kids: []int{1}, list: []api.Msg{msg.OfDel("b"), msg.OfPut("a", "v")}}, "\x02\x01\x00\x01\x02\x01\x01a\x01v\x02\x01b\x00"},
	} {
		if s, e := of(t, c.p).Bytes(); e != api.OK || s != c.want {
			t.Errorf("Bytes is %q, %d, want %q", s, e, c.want)
		}
		m, e := node.Parse(c.want)
		if e != api.OK || !node.Same(m, of(t, c.p)) {
			t.Errorf("Parse(%q): %d", c.want, e)
		}
	}
}

// P12.2: ErrFull, and no bytes, of all that doesn't fit.
func TestBytesFull(t *testing.T) {
	for _, p := range unfit() {
		if s, e := of(t, p).Bytes(); e != api.ErrFull || s != "" {
			t.Errorf("Bytes of %#v is %q, %d", p, s, e)
		}
	}
}

// P12.3: what was written is read as it was, and has few enough bytes, of all edges.
func TestWriteAndRead(t *testing.T) {
	for _, p := range append(fitting(), unfit()...) {
		wantBytes(t, p)
	}
	most := 0
	for _, p := range fitting() {
		s, _ := of(t, p).Bytes()
		most = max(most, len(s))
	}
	if s, e := of(t, greatest()).Bytes(); e != api.OK || len(s) != 240 || most != 242 {
		t.Errorf("%d bytes of the greatest inner node, %d of the greatest node, %d", len(s), most, e)
	}
}

// P12.3: what fits can be laid into a block, and is opened as it was.
func TestBlocks(t *testing.T) {
	for _, p := range fitting() {
		n := of(t, p)
		s, _ := n.Bytes()
		block, e := slab.Lay(s)
		if e != api.OK {
			t.Fatalf("%#v: %d", p, e)
		}
		back, e := slab.Open(block)
		m, eParse := node.Parse(back)
		if e != api.OK || eParse != api.OK || !node.Same(m, n) {
			t.Errorf("%#v: %d, %d", p, e, eParse)
		}
	}
}

// P12.2: no byte, one byte, and a first byte that is no kind, ahead of what would be a node.
func TestParseKind(t *testing.T) {
	wantForm(t, "")
	for b := range 256 {
		kind := string([]byte{byte(b)})
		wantForm(t, kind)
		if b == 1 || b == 2 {
			continue
		}
		for _, s := range []string{"\x00", someBytes()[1:], threeBytes()[1:], someBytes(), threeBytes()} {
			wantForm(t, kind+s)
		}
	}
	wantForm(t, "\x01"+threeBytes()[1:])
	wantForm(t, "\x02"+someBytes()[1:])
}

// P12.2: a count of items, of kids and of messages that is another one than what follows.
func TestParseCounts(t *testing.T) {
	messages := strings.Index(threeBytes(), "\x04\x01\x01a")
	for _, c := range []struct {
		s        string
		at, want int
	}{{someBytes(), 1, 5}, {"\x01\x00", 1, 0}, {threeBytes(), 1, 3}, {threeBytes(), messages, 4}, {"\x02\x01\x00\x05\x00", 4, 0}} {
		for count := range 256 {
			b := []byte(c.s)
			b[c.at] = byte(count)
			if count == c.want {
				if !wantParse(t, string(b)) {
					t.Errorf("%q isn't read", b)
				}
			} else {
				wantForm(t, string(b))
			}
		}
	}
}

// P12.2: what was written, with a byte more behind it or ahead of it, and with fewer bytes.
func TestParseLength(t *testing.T) {
	for _, p := range fitting() {
		s := bytesByWords(p)
		for b := range 256 {
			wantForm(t, s+string([]byte{byte(b)}))
		}
		for n := range len(s) {
			wantForm(t, s[:n])
		}
		wantForm(t, s+s)
		wantForm(t, s+long(300))
		wantForm(t, "\x00"+s)
		wantParse(t, s[1:])
	}
}

// P12.2: items whose keys don't rise, are the same, empty or too long, and values that are too long.
func TestParseItems(t *testing.T) {
	for _, items := range [][]api.Item{
		{{Key: "b"}, {Key: "a"}}, {{Key: "a", Val: "1"}, {Key: "c", Val: "2"}, {Key: "b", Val: "3"}}, {{Key: "ab"}, {Key: "a"}}, {{Key: "\xff"}, {Key: "\x00"}}, {{Key: "a"}, {Key: "B"}},
		{{Key: "a"}, {Key: "a"}}, {{Key: "a", Val: "1"}, {Key: "a", Val: "2"}}, {{Key: "a"}, {Key: "b"}, {Key: "b"}},
		{{Key: ""}}, {{Key: "", Val: "v"}}, {{Key: ""}, {Key: "a"}}, {{Key: "a"}, {Key: ""}},
		{{Key: long(9)}}, {{Key: "a"}, {Key: long(9), Val: "v"}}, {{Key: long(200)}}, {{Key: "a", Val: long(17)}}, {{Key: "a"}, {Key: "b", Val: long(17)}}, {{Key: "a", Val: long(200)}},
	} {
		wantForm(t, bytesByWords(leafOf(items...)))
	}
	for _, items := range [][]api.Item{{{Key: "a"}, {Key: "ab"}}, {{Key: "\x00"}, {Key: "\x00\x00"}}, {{Key: "abcdefgh", Val: long(16)}}, {{Key: "B"}, {Key: "a"}}} {
		if !wantParse(t, bytesByWords(leafOf(items...))) {
			t.Errorf("%#v isn't read", items)
		}
	}
}

// P12.2: no kid, kids that are no blocks, and pivots that aren't keys that rise.
func TestParseKids(t *testing.T) {
	wantForm(t, "\x02\x00")
	wantForm(t, "\x02\x00\x00")
	wantForm(t, "\x02\x00\x01\x02\x01a\x00")
	wantForm(t, "\x02\x00\x01a\x00")
	for _, kid := range []int{512, 513, 767, 1024, 32768, 65535} {
		for i := range 3 {
			p := three()
			p.kids[i] = kid
			wantForm(t, bytesByWords(p))
		}
		wantForm(t, bytesByWords(plain{kids: []int{kid}}))
	}
	for _, pivots := range [][]string{{"p", "g"}, {"g", "g"}, {"gg", "g"}, {"", "g"}, {"g", ""}, {"", ""}, {long(9), "y"}, {"g", long(9)}, {"g", long(200)}, {"\xff", "\x00"}} {
		p := three()
		p.pivots = pivots
		wantForm(t, bytesByWords(p))
	}
	for _, p := range []plain{{kids: []int{1, 2}}, {kids: []int{1}, pivots: []string{"a"}}, {kids: []int{1, 2}, pivots: []string{"a", "b"}}, {kids: []int{1, 2, 3}, pivots: []string{"a"}}} {
		wantForm(t, bytesByWords(p))
	}
}

// P12.2: messages whose keys don't rise or are the same, and such as can't be.
func TestParseMsgs(t *testing.T) {
	for _, list := range [][]api.Msg{
		{msg.OfDel("b"), msg.OfDel("a")}, {msg.OfDel("a"), msg.OfPut("c", ""), msg.OfDel("b")}, {msg.OfDel("ab"), msg.OfDel("a")}, {msg.OfDel("\xff"), msg.OfDel("\x00")},
		{msg.OfDel("a"), msg.OfDel("a")}, {msg.OfAdd("a", 1), msg.OfAdd("a", 2)}, {msg.OfPut("a", "1"), msg.OfDel("a")}, {msg.OfDel("a"), msg.OfPut("b", "1"), msg.OfPut("b", "1")},
		{{Kind: 0, Key: "a"}}, {{Kind: 4, Key: "a"}}, {{Kind: 255, Key: "a"}}, {{Kind: 0, Key: "a", Val: number(1)}}, {msg.OfDel("a"), {Kind: 4, Key: "b"}}, {{}},
		{msg.OfPut("", "v")}, {msg.OfPut(long(9), "v")}, {msg.OfPut("a", long(17))}, {msg.OfDel("")}, {msg.OfDel(long(9))}, {msg.OfDel("a"), msg.OfDel("")}, {msg.OfAdd("", 1)},
		{{Kind: 2, Key: "a", Val: "v"}}, {{Kind: 2, Key: "a", Val: number(0)}}, {{Kind: 3, Key: "a"}}, {{Kind: 3, Key: "a", Val: long(7)}}, {{Kind: 3, Key: "a", Val: long(9)}}, {{Kind: 3, Key: "a", Val: long(16)}},
	} {
		p := three()
		p.list = list
		wantForm(t, bytesByWords(p))
		wantForm(t, bytesByWords(plain{kids: []int{1}, list: list}))
	}
}

// P12.2: what is well formed, but doesn't fit.
func TestParseUnfit(t *testing.T) {
	for _, p := range []plain{heavyLeaf(1), heavyLeaf(13), manyItems(81), manyItems(255), kidsOf(7), kidsOf(8), kidsOf(255), heavyBuff(1), heavyBuff(9), manyMsgs(46), manyMsgs(255), {kids: []int{512}}} {
		wantForm(t, bytesByWords(p))
	}
}

// P12.2: each byte of what was written turned, in all ways where they are few, added and left out.
func TestParseTurned(t *testing.T) {
	for _, p := range fitting() {
		s := bytesByWords(p)
		step := 1
		if len(s) > 100 {
			step = 15
		}
		for i := range len(s) {
			for turn := step; turn < 256; turn += step {
				wantParse(t, s[:i]+string([]byte{s[i] ^ byte(turn)})+s[i+1:])
			}
			for _, b := range []byte{0, 1, 2, 3, 8, 'a', 255} {
				wantParse(t, s[:i]+string([]byte{b})+s[i:])
			}
			wantParse(t, s[:i]+s[i+1:])
		}
	}
}

// P12.2: all texts of two bytes, those of three that begin with a kind, and longer ones of few bytes.
func TestParseShort(t *testing.T) {
	read := 0
	for n := range 1 << 16 {
		two := string([]byte{byte(n >> 8), byte(n)})
		for _, s := range []string{two, "\x01" + two, "\x02" + two} {
			if wantParse(t, s) {
				read++
			}
		}
	}
	// Of three bytes there is none; of two there is the leaf of no item.
	if read != 1 {
		t.Errorf("%d nodes", read)
	}
	row := []string{""}
	for range 7 {
		var more []string
		for _, s := range row {
			for _, b := range []string{"\x00", "\x01", "\x02", "a"} {
				wantParse(t, s+b)
				more = append(more, s+b)
			}
		}
		row = more
	}
}

// P12.2: great texts are no nodes, whatever they begin with.
func TestParseLong(t *testing.T) {
	for _, s := range []string{"", "\x01", "\x02", "\x01\x00", "\x01\xff", "\x02\xff", someBytes(), threeBytes()} {
		for _, b := range []string{"\x00", "\x01", "a", "\xff"} {
			wantForm(t, s+strings.Repeat(b, 1<<20))
		}
	}
}

// P12.2: leaves and inner nodes that part in one place, and nil.
func TestSame(t *testing.T) {
	items := some().items
	other := slices.Clone(items)
	other[1].Val = "c"
	moved := slices.Clone(items)
	moved[1].Key = "aa"
	list := three().list
	row := []plain{
		leafOf(), some(), leafOf(items[1:]...), leafOf(items[:4]...), leafOf(other...), leafOf(moved...), heavyLeaf(0), heavyLeaf(1),
		{kids: []int{1}}, {kids: []int{2}}, {kids: []int{512}}, {kids: []int{1}, list: list}, {kids: []int{1}, list: list[1:]}, {kids: []int{1}, list: append([]api.Msg{msg.OfPut("a", "2")}, list[1:]...)}, {kids: []int{1}, list: append([]api.Msg{msg.OfDel("a")}, list[1:]...)},
		{kids: []int{1, 2}, pivots: []string{"g"}}, {kids: []int{1, 2}, pivots: []string{"h"}}, {kids: []int{2, 1}, pivots: []string{"g"}}, {kids: []int{1, 3}, pivots: []string{"g"}}, {kids: []int{1, 2}, pivots: []string{"g"}, list: list}, three(), kidsOf(6), kidsOf(7),
	}
	for i, x := range row {
		for j, y := range row {
			if got := node.Same(of(t, x), of(t, y)); got != (i == j) {
				t.Errorf("Same of %#v and %#v is %v", x, y, got)
			}
		}
		if node.Same(of(t, x), nil) || node.Same(nil, of(t, x)) {
			t.Errorf("%#v is the same as nil", x)
		}
	}
	if !node.Same(nil, nil) {
		t.Error("nil isn't the same as nil")
	}
}

// P1, rule 5: of a nil node false, nil, nothing; ErrNil of Bytes.
func TestNil(t *testing.T) {
	var none *node.Node
	if none.IsLeaf() || none.Fits() || none.Leaf() != nil || none.Inner() != nil || len(none.Kids()) != 0 {
		t.Error(none.IsLeaf(), none.Fits(), none.Leaf(), none.Inner(), none.Kids())
	}
	if s, e := none.Bytes(); s != "" || e != api.ErrNil {
		t.Errorf("%q, %d", s, e)
	}
}

// P12.1, rule 3: a node stays as it was, when what Kids, Leaf or Inner gave is changed, or something is made of it.
func TestNeverChanged(t *testing.T) {
	for _, p := range append(fitting(), unfit()...) {
		n := of(t, p)
		was, wasErr := n.Bytes()
		kids := n.Kids()
		for _, list := range [][]int{n.Kids(), n.Inner().Kids()} {
			clear(list[:cap(list)])
			for i := range list {
				list[i] = -5
			}
		}
		if !slices.Equal(kids, p.kids) {
			t.Fatalf("lists of two calls share memory: %d", kids)
		}
		items, pivots, list := n.Leaf().Items(), n.Inner().Pivots(), n.Inner().Buff().List()
		clear(items[:cap(items)])
		clear(pivots[:cap(pivots)])
		clear(list[:cap(list)])
		n.Leaf().With(msg.OfDel("a"), msg.OfPut("abcdefgh", "new"))
		n.Leaf().Parts()
		n.Inner().Put(msg.OfPut("a", "new"), msg.OfDel("z"))
		n.Inner().Swap(0, inner.Part{Ref: 7})
		n.Inner().Fuse(0, 7)
		n.Inner().Flush(0)
		want(t, n, p)
		if s, e := n.Bytes(); s != was || e != wasErr {
			t.Errorf("%q, %d, was %q, %d", s, e, was, wasErr)
		}
	}
}

// Rule 4: nodes that were read of the same bytes have nothing to do with each other.
func TestParseTwice(t *testing.T) {
	for _, p := range fitting() {
		s := bytesByWords(p)
		a, _ := node.Parse(s)
		b, _ := node.Parse(s)
		kids := a.Kids()
		clear(kids)
		want(t, a, p)
		want(t, b, p)
		if !node.Same(a, b) || !node.Same(a, of(t, p)) {
			t.Errorf("%q is read as two nodes", s)
		}
	}
}

// anyKey is a key of 1 to 8 bytes, more often a short one.
func anyKey(rnd *rand.Rand) string {
	b := make([]byte, 1+rnd.Intn(1+rnd.Intn(8)))
	rnd.Read(b)
	return string(b)
}

// anyMsg is a message that can be.
func anyMsg(rnd *rand.Rand) api.Msg {
	switch rnd.Intn(3) {
	case 0:
		return msg.OfPut(anyKey(rnd), long(rnd.Intn(17)))
	case 1:
		return msg.OfDel(anyKey(rnd))
	}
	return msg.OfAdd(anyKey(rnd), rnd.Uint64())
}

// anyKeys are up to so many keys, rising.
func anyKeys(rnd *rand.Rand, most int) []string {
	keys := make([]string, rnd.Intn(most+1))
	for i := range keys {
		keys[i] = anyKey(rnd)
	}
	slices.Sort(keys)
	return slices.Compact(keys)
}

// anyPlain is what a node may have that fits, or is a little too great to.
func anyPlain(rnd *rand.Rand) plain {
	if rnd.Intn(2) == 0 {
		p := leafOf()
		for _, k := range anyKeys(rnd, 30) {
			p.items = append(p.items, api.Item{Key: k, Val: long(rnd.Intn(17))})
		}
		return p
	}
	p := plain{pivots: anyKeys(rnd, 6)}
	for range len(p.pivots) + 1 {
		p.kids = append(p.kids, rnd.Intn(520))
	}
	for _, k := range anyKeys(rnd, 20) {
		m := anyMsg(rnd)
		m.Key = k
		p.list = append(p.list, m)
	}
	return p
}

// P12.2, P12.3: any nodes are written by the chapter's words, and read as they were; their bytes, mixed, are held against the words too.
func TestAny(t *testing.T) {
	rnd := rand.New(rand.NewSource(1))
	fits, read := 0, 0
	for range 20000 {
		p := anyPlain(rnd)
		want(t, of(t, p), p)
		wantBytes(t, p)
		if fitsByWords(p) {
			fits++
		}
		b := []byte(bytesByWords(p))
		for range 1 + rnd.Intn(3) {
			b[rnd.Intn(len(b))] = byte(rnd.Intn(1 + rnd.Intn(256)))
		}
		if wantParse(t, string(b)) {
			read++
		}
	}
	if fits < 5000 || fits > 15000 || read < 1000 {
		t.Errorf("%d fit, %d were read", fits, read)
	}
}

// What the tests hold the program against is one: bytes by the words are read by the words as they were.
func TestWords(t *testing.T) {
	for _, p := range fitting() {
		got, ok := parseByWords(bytesByWords(p))
		if !ok || fmt.Sprint(got) != fmt.Sprint(p) {
			t.Errorf("%#v, %v, want %#v", got, ok, p)
		}
	}
}

// FuzzParse holds Parse against the chapter's words, at any bytes.
func FuzzParse(f *testing.F) {
	for _, p := range fitting() {
		f.Add(bytesByWords(p))
	}
	for _, s := range []string{"", "\x00", "\x01", "\x02\x00\x00", "\x03\x00", "\x01\x02\x01b\x00\x01a\x00", "\x02\x01\x02\x00\x00"} {
		f.Add(s)
	}
	f.Fuzz(func(t *testing.T, s string) {
		wantParse(t, s)
	})
}
