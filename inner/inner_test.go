package inner_test

import (
	"encoding/binary"
	"math"
	"math/rand"
	"slices"
	"strings"
	"testing"

	"granger/api"
	"granger/inner"
	"granger/key"
	"granger/msg"
)

// plain is what an inner node has: its kids, its pivots, and its messages, rising, one a key.
type plain struct {
	kids   []int
	pivots []string
	list   []api.Msg
}

// long is a text of so many bytes.
func long(n int) string {
	return strings.Repeat("x", n)
}

// number is a number's value, the highest byte first.
func number(n uint64) string {
	return string(binary.BigEndian.AppendUint64(nil, n))
}

// of is a node with these, which can be.
func of(t *testing.T, p plain) *inner.Inner {
	t.Helper()
	n, e := inner.Of(p.kids, p.pivots, p.list...)
	if e != api.OK || n == nil {
		t.Fatalf("Of(%d, %q, %#v): %d", p.kids, p.pivots, p.list, e)
	}
	return n
}

// seven is the chapter's example: seven kids, and messages to some of them, some at a pivot, one ahead of all and one behind all.
func seven() plain {
	return plain{
		kids:   []int{1, 2, 3, 4, 5, 6, 7},
		pivots: []string{"b", "d", "f", "h", "j", "l"},
		list:   []api.Msg{msg.OfDel("a"), msg.OfPut("d", "x"), msg.OfAdd("e", 3), msg.OfPut("h", ""), msg.OfDel("hh"), msg.OfAdd("z", 9)},
	}
}

// three are three kids, and a message to each.
func three() plain {
	return plain{kids: []int{10, 20, 30}, pivots: []string{"g", "p"}, list: []api.Msg{msg.OfPut("c", "1"), msg.OfAdd("g", 2), msg.OfDel("x")}}
}

// many is a node of so many kids, whose pivots are the numbers 1, 2 and so on, with a message at each pivot, and one ahead of all.
func many(kids int) plain {
	p := plain{kids: make([]int, kids), list: []api.Msg{msg.OfDel("\x00")}}
	for i := range kids {
		p.kids[i] = (i * 7) % 13
		if i > 0 {
			p.pivots = append(p.pivots, number(uint64(i)))
			p.list = append(p.list, msg.OfPut(number(uint64(i)), number(uint64(i))))
		}
	}
	return p
}

// wrongMsgs are messages that can't be.
func wrongMsgs() []api.Msg {
	return []api.Msg{
		{}, {Kind: 0, Key: "b"}, {Kind: 4, Key: "b"}, {Kind: -1, Key: "b"}, {Kind: math.MinInt, Key: "b"}, {Kind: math.MaxInt, Key: "b"},
		msg.OfPut("", "v"), msg.OfPut("abcdefghi", "v"), msg.OfPut("b", long(17)), msg.OfDel(""), msg.OfDel(long(264)),
		{Kind: msg.Del, Key: "b", Val: "x"}, msg.OfAdd("", 1), {Kind: msg.Add, Key: "b"}, {Kind: msg.Add, Key: "b", Val: long(7)}, {Kind: msg.Add, Key: "b", Val: long(9)},
	}
}

// wrongPivots are lists of two that aren't keys that rise.
func wrongPivots() [][]string {
	return [][]string{
		{"p", "g"}, {"g", "g"}, {"gg", "g"}, {"", "g"}, {"g", ""}, {"", ""}, {"abcdefghi", "p"}, {"g", "pqrstuvwx"}, {"g", long(300)}, {"\xff", "\x00"}, {"a", "B"},
	}
}

// ends are whole numbers that are no place of a node of so many kids.
func ends(kids int) []int {
	return []int{-1, kids, kids + 1, -kids, math.MinInt, math.MaxInt, math.MaxInt - 1, math.MinInt32, math.MaxInt32, 1 << 32}
}

// anyKey is a key of 1 to 8 bytes, more often a short one, of few letters, so that keys meet often.
func anyKey(rnd *rand.Rand) string {
	b := make([]byte, 1+rnd.Intn(1+rnd.Intn(8)))
	for i := range b {
		b[i] = "\x00ab\xff"[rnd.Intn(4)]
	}
	return string(b)
}

// anyText is a key, no text, or what is too long to be a key.
func anyText(rnd *rand.Rand) string {
	switch rnd.Intn(8) {
	case 0:
		return ""
	case 1:
		return anyKey(rnd) + "abcdefgh"
	}
	return anyKey(rnd)
}

// anyMsg is a message that can be.
func anyMsg(rnd *rand.Rand) api.Msg {
	switch rnd.Intn(4) {
	case 0:
		return msg.OfPut(anyKey(rnd), long(rnd.Intn(17)))
	case 1:
		return msg.OfPut(anyKey(rnd), number(rnd.Uint64()))
	case 2:
		return msg.OfDel(anyKey(rnd))
	}
	return msg.OfAdd(anyKey(rnd), rnd.Uint64())
}

// anyList is up to so many messages that can be.
func anyList(rnd *rand.Rand, most int) []api.Msg {
	list := make([]api.Msg, rnd.Intn(most+1))
	for i := range list {
		list[i] = anyMsg(rnd)
	}
	return list
}

// anyPlain is what a node of up to so many kids may have.
func anyPlain(rnd *rand.Rand, most int) plain {
	pivots := make([]string, rnd.Intn(most))
	for i := range pivots {
		pivots[i] = anyKey(rnd)
	}
	slices.Sort(pivots)
	pivots = slices.Compact(pivots)
	kids := make([]int, len(pivots)+1)
	for i := range kids {
		kids[i] = rnd.Intn(1000)
	}
	return plain{kids: kids, pivots: pivots, list: putByWords(anyList(rnd, 30))}
}

// thenByWords is what two messages to one key are together, as layer 8's words tell it.
func thenByWords(a, b api.Msg) api.Msg {
	switch {
	case b.Kind != 3:
		return b
	case a.Kind == 2:
		return api.Msg{Kind: 1, Key: a.Key, Val: b.Val}
	case len(a.Val) == 8:
		sum := binary.BigEndian.Uint64([]byte(a.Val)) + binary.BigEndian.Uint64([]byte(b.Val))
		return api.Msg{Kind: a.Kind, Key: a.Key, Val: number(sum)}
	}
	return a
}

// putByWords is what a buffer has, into which these lists are put, one behind the other.
func putByWords(lists ...[]api.Msg) []api.Msg {
	byKey := map[string]api.Msg{}
	for _, m := range slices.Concat(lists...) {
		if old, has := byKey[m.Key]; has {
			m = thenByWords(old, m)
		}
		byKey[m.Key] = m
	}
	var row []api.Msg
	for _, m := range byKey {
		row = append(row, m)
	}
	slices.SortFunc(row, func(a, b api.Msg) int { return strings.Compare(a.Key, b.Key) })
	return row
}

// isByWords tells whether a node can have these.
func isByWords(p plain) bool {
	for i, k := range p.pivots {
		if k == "" || len(k) > 8 || i > 0 && p.pivots[i-1] >= k {
			return false
		}
	}
	for _, kid := range p.kids {
		if kid < 0 {
			return false
		}
	}
	for _, m := range p.list {
		if !msg.Is(m) {
			return false
		}
	}
	return len(p.kids) > 0 && len(p.kids) == len(p.pivots)+1
}

// kidByWords is how many pivots don't stand behind a key.
func kidByWords(pivots []string, k string) int {
	at := 0
	for _, p := range pivots {
		if p <= k {
			at++
		}
	}
	return at
}

// flushByWords is a node without the messages to a kid, and these.
func flushByWords(p plain, i int) (plain, []api.Msg) {
	o := plain{kids: p.kids, pivots: p.pivots}
	var gone []api.Msg
	for _, m := range p.list {
		if kidByWords(p.pivots, m.Key) == i {
			gone = append(gone, m)
		} else {
			o.list = append(o.list, m)
		}
	}
	return o, gone
}

// swapByWords is a node with parts in the place of a kid, whether it can be or not.
func swapByWords(p plain, i int, parts []inner.Part) plain {
	o := plain{list: p.list}
	for at, kid := range p.kids {
		if at > 0 {
			o.pivots = append(o.pivots, p.pivots[at-1])
		}
		if at != i {
			o.kids = append(o.kids, kid)
			continue
		}
		for j, part := range parts {
			o.kids = append(o.kids, part.Ref)
			if j > 0 {
				o.pivots = append(o.pivots, part.Low)
			}
		}
	}
	return o
}

// fuseByWords is a node with ref in the place of the kids i and i + 1.
func fuseByWords(p plain, i, ref int) plain {
	o := plain{kids: slices.Clone(p.kids), pivots: slices.Clone(p.pivots), list: p.list}
	o.kids[i] = ref
	o.kids = slices.Delete(o.kids, i+1, i+2)
	o.pivots = slices.Delete(o.pivots, i, i+1)
	return o
}

// partsByWords are the nodes that come of one, and the pivots between them.
func partsByWords(p plain) ([]plain, []string) {
	count := 1
	for count*6 < len(p.kids) {
		count++
	}
	sizes := make([]int, count)
	for i := range p.kids {
		sizes[i%count]++
	}
	var parts []plain
	var between []string
	from := 0
	for _, size := range sizes {
		if from > 0 {
			between = append(between, p.pivots[from-1])
		}
		o := plain{kids: p.kids[from : from+size], pivots: p.pivots[from : from+size-1]}
		for _, m := range p.list {
			if at := kidByWords(p.pivots, m.Key); at >= from && at < from+size {
				o.list = append(o.list, m)
			}
		}
		parts, from = append(parts, o), from+size
	}
	return parts, between
}

// joinByWords is a node with what both have, whether it can be or not.
func joinByWords(p plain, pivot string, o plain) plain {
	return plain{kids: slices.Concat(p.kids, o.kids), pivots: slices.Concat(p.pivots, []string{pivot}, o.pivots), list: putByWords(p.list, o.list)}
}

// want looks whether a node has just these, by all calls that tell of them.
func want(t *testing.T, n *inner.Inner, p plain) {
	t.Helper()
	if n == nil {
		t.Fatalf("no node, want one of %#v", p)
	}
	if n.Len() != len(p.kids) || !slices.Equal(n.Kids(), p.kids) {
		t.Fatalf("%d kids, %d, want %d", n.Len(), n.Kids(), p.kids)
	}
	if !slices.Equal(n.Pivots(), p.pivots) {
		t.Fatalf("the pivots are %q, want %q", n.Pivots(), p.pivots)
	}
	if n.Buff() == nil || !slices.Equal(n.Buff().List(), p.list) {
		t.Fatalf("the messages are %#v, want %#v", n.Buff().List(), p.list)
	}
}

// wantMade looks at an answer: the node with these, or ErrArg of what can't be.
func wantMade(t *testing.T, n *inner.Inner, e api.Errno, p plain) {
	t.Helper()
	if !isByWords(p) {
		wantNone(t, n, e, api.ErrArg)
		return
	}
	if e != api.OK {
		t.Fatalf("%d, want a node of %#v", e, p)
	}
	want(t, n, p)
}

func wantNone(t *testing.T, n *inner.Inner, e, err api.Errno) {
	t.Helper()
	if n != nil || e != err {
		t.Fatalf("a node of %d, %q, and %d, want %d", n.Kids(), n.Pivots(), e, err)
	}
}

// wantFlush looks what a flush takes of a node, and what is left.
func wantFlush(t *testing.T, p plain, i int) {
	t.Helper()
	n := of(t, p)
	left, gone := flushByWords(p, i)
	o, list, e := n.Flush(i)
	if e != api.OK || !slices.Equal(list, gone) {
		t.Fatalf("Flush(%d) of %q is %#v, %d, want %#v", i, p.pivots, list, e, gone)
	}
	want(t, o, left)
	want(t, n, p)
}

// wantParts looks at the parts of a node, and joins them again: from the first one on, and from the last one on.
func wantParts(t *testing.T, p plain) {
	t.Helper()
	n := of(t, p)
	parts, between := n.Parts()
	wants, wantBetween := partsByWords(p)
	if len(parts) != len(wants) || !slices.Equal(between, wantBetween) {
		t.Fatalf("%d parts, with %q between them, want %d, with %q", len(parts), between, len(wants), wantBetween)
	}
	for i := range parts {
		want(t, parts[i], wants[i])
	}
	last := len(parts) - 1
	ahead, behind := parts[0], parts[last]
	for i := range between {
		ahead = join(t, ahead, between[i], parts[i+1])
		behind = join(t, parts[last-i-1], between[last-i-1], behind)
	}
	want(t, ahead, p)
	want(t, behind, p)
	if !inner.Same(ahead, n) || !inner.Same(behind, n) {
		t.Fatalf("parts of %d kids, joined, aren't the node", len(p.kids))
	}
}

// join is both nodes joined, which can be.
func join(t *testing.T, n *inner.Inner, pivot string, o *inner.Inner) *inner.Inner {
	t.Helper()
	j, e := n.Join(pivot, o)
	if e != api.OK || j == nil {
		t.Fatalf("Join(%q) of %q and %q: %d", pivot, n.Pivots(), o.Pivots(), e)
	}
	return j
}

// P11.1: one kid and no pivot, and as many kids as parts are made of, and more; kids may be any numbers from 0 on, the same ones too.
func TestOf(t *testing.T) {
	for _, p := range []plain{
		{kids: []int{0}}, {kids: []int{0}, pivots: []string{}, list: []api.Msg{}}, {kids: []int{math.MaxInt}, list: []api.Msg{msg.OfDel("k")}}, seven(), three(),
		{kids: []int{5, 5}, pivots: []string{"m"}}, {kids: []int{9, 0, 9, math.MaxInt}, pivots: []string{"\x00", "\x00\x00", "\xff"}},
		{kids: []int{3, 2, 1}, pivots: []string{"abcdefgh", "abcdefgi"}}, {kids: []int{1, 2, 3}, pivots: []string{"a", "ab"}}, {kids: []int{1, 2, 3}, pivots: []string{strings.Repeat("\xff", 7), strings.Repeat("\xff", 8)}},
		many(1), many(2), many(5), many(6), many(7), many(11), many(12), many(13), many(600),
	} {
		n := of(t, p)
		want(t, n, p)
		if n.Buff().Len() != len(p.list) {
			t.Errorf("%d messages, want %d", n.Buff().Len(), len(p.list))
		}
	}
}

// P11.1: kids below 0, wherever they stand, and no kids.
func TestOfWrongKids(t *testing.T) {
	for _, low := range []int{-1, -2, math.MinInt, math.MinInt32} {
		for i := range 7 {
			p := seven()
			p.kids[i] = low
			n, e := inner.Of(p.kids, p.pivots, p.list...)
			wantNone(t, n, e, api.ErrArg)
		}
		n, e := inner.Of([]int{low}, nil)
		wantNone(t, n, e, api.ErrArg)
	}
	for _, kids := range [][]int{nil, {}} {
		for _, pivots := range [][]string{nil, {}, {"a"}, {"a", "b"}} {
			n, e := inner.Of(kids, pivots)
			wantNone(t, n, e, api.ErrArg)
			n, e = inner.Of(kids, pivots, three().list...)
			wantNone(t, n, e, api.ErrArg)
		}
	}
}

// P11.1: pivots of a wrong count, and such as aren't keys that rise.
func TestOfWrongPivots(t *testing.T) {
	rising := []string{"a", "b", "c", "d", "e", "f", "g", "h"}
	for kids := range 8 {
		for pivots := range 9 {
			p := plain{kids: make([]int, kids), pivots: rising[:pivots]}
			n, e := inner.Of(p.kids, p.pivots)
			if kids == 0 || pivots != kids-1 {
				wantNone(t, n, e, api.ErrArg)
			} else {
				want(t, n, p)
			}
		}
	}
	for _, pivots := range wrongPivots() {
		n, e := inner.Of([]int{1, 2, 3}, pivots)
		wantNone(t, n, e, api.ErrArg)
		n, e = inner.Of([]int{1, 2, 3}, pivots, three().list...)
		wantNone(t, n, e, api.ErrArg)
	}
	for _, pivot := range []string{"", "abcdefghi", long(256), long(264)} {
		n, e := inner.Of([]int{1, 2}, []string{pivot})
		wantNone(t, n, e, api.ErrArg)
	}
	for i := range 5 {
		p := seven()
		p.pivots[i], p.pivots[i+1] = p.pivots[i+1], p.pivots[i]
		n, e := inner.Of(p.kids, p.pivots)
		wantNone(t, n, e, api.ErrArg)
	}
}

// P11.1, P11.2: one message among good ones that can't be, of Of and of Put; the node that was there stays.
func TestWrongMsgs(t *testing.T) {
	x, y := msg.OfPut("b", "9"), msg.OfDel("d")
	p := three()
	n := of(t, p)
	for _, m := range wrongMsgs() {
		for _, list := range [][]api.Msg{{m}, {m, x, y}, {x, m, y}, {x, y, m}, {m, m}} {
			o, e := inner.Of(p.kids, p.pivots, list...)
			wantNone(t, o, e, api.ErrArg)
			o, e = n.Put(list...)
			wantNone(t, o, e, api.ErrArg)
			o, e = of(t, plain{kids: []int{0}}).Put(list...)
			wantNone(t, o, e, api.ErrArg)
		}
	}
	want(t, n, p)
}

// P11.1: messages in whatever order, several to one key, to keys of one kid and of several: the buffer of all.
func TestOfMsgs(t *testing.T) {
	p := three()
	for _, list := range [][]api.Msg{
		{msg.OfDel("x"), msg.OfAdd("g", 2), msg.OfPut("c", "1")}, {msg.OfAdd("g", 1), msg.OfDel("x"), msg.OfAdd("g", 1), msg.OfPut("c", "0"), msg.OfPut("c", "1")}, {msg.OfPut("x", "y"), msg.OfAdd("g", 2), msg.OfDel("c"), msg.OfDel("x"), msg.OfPut("c", "1")},
	} {
		n, e := inner.Of(p.kids, p.pivots, list...)
		wantMade(t, n, e, p)
	}
	rnd := rand.New(rand.NewSource(1))
	for range 500 {
		list := anyList(rnd, 30)
		n, e := inner.Of(p.kids, p.pivots, list...)
		wantMade(t, n, e, plain{kids: p.kids, pivots: p.pivots, list: putByWords(list)})
	}
}

// P11.2: keys at a pivot, right ahead of it and behind it, ahead of all and behind all, and what is no key.
func TestKidOf(t *testing.T) {
	n := of(t, seven())
	for _, c := range []struct {
		k    string
		want int
	}{
		{"a", 0}, {"a\xff\xff\xff\xff\xff\xff\xff", 0}, {"b", 1}, {"b\x00", 1}, {"c", 1}, {"c\xff", 1}, {"d", 2}, {"e", 2}, {"f", 3}, {"g", 3}, {"h", 4}, {"i", 4}, {"j", 5}, {"k", 5}, {"k\xff", 5}, {"l", 6}, {"l\x00", 6}, {"z", 6}, {"\x00", 0}, {"\xff", 6}, {"B", 0},
		{"", 0}, {"abcdefghi", 0}, {"bcdefghij", 1}, {long(300), 6}, {"l" + strings.Repeat("\x00", 9), 6},
	} {
		if got := n.KidOf(c.k); got != c.want {
			t.Errorf("KidOf(%q) is %d, want %d", c.k, got, c.want)
		}
	}
	for _, k := range []string{"", "\x00", "a", "\xff", "abcdefgh", long(300)} {
		if got := of(t, plain{kids: []int{4}, list: three().list}).KidOf(k); got != 0 {
			t.Errorf("KidOf(%q) of an only kid is %d", k, got)
		}
	}
}

// P11.2: of all keys, of a narrower range, of one without an end, of a turned one, and of such as can't be.
func TestRange(t *testing.T) {
	n := of(t, three())
	lone := of(t, plain{kids: []int{1}})
	two := of(t, plain{kids: []int{1, 2}, pivots: []string{"m"}})
	for _, c := range []struct {
		n    *inner.Inner
		all  key.Range
		want []key.Range
	}{
		{n, key.Range{}, []key.Range{{Hi: "g"}, {Lo: "g", Hi: "p"}, {Lo: "p"}}},
		{n, key.Range{Lo: "c", Hi: "r"}, []key.Range{{Lo: "c", Hi: "g"}, {Lo: "g", Hi: "p"}, {Lo: "p", Hi: "r"}}},
		{n, key.Range{Lo: "i", Hi: "k"}, []key.Range{{Lo: "i", Hi: "i"}, {Lo: "i", Hi: "k"}, {Lo: "p", Hi: "p"}}},
		{n, key.Range{Lo: "i"}, []key.Range{{Lo: "i", Hi: "i"}, {Lo: "i", Hi: "p"}, {Lo: "p"}}},
		{n, key.Range{Hi: "i"}, []key.Range{{Hi: "g"}, {Lo: "g", Hi: "i"}, {Lo: "p", Hi: "p"}}},
		{n, key.Range{Lo: "g", Hi: "p"}, []key.Range{{Lo: "g", Hi: "g"}, {Lo: "g", Hi: "p"}, {Lo: "p", Hi: "p"}}},
		{n, key.Range{Lo: "z", Hi: "a"}, []key.Range{{Lo: "z", Hi: "z"}, {Lo: "z", Hi: "z"}, {Lo: "z", Hi: "z"}}},
		{n, key.Range{Lo: "k", Hi: "h"}, []key.Range{{Lo: "k", Hi: "k"}, {Lo: "k", Hi: "k"}, {Lo: "p", Hi: "p"}}},
		{two, key.Range{}, []key.Range{{Hi: "m"}, {Lo: "m"}}},
		{two, key.Range{Lo: "z", Hi: "a"}, []key.Range{{Lo: "z", Hi: "z"}, {Lo: "z", Hi: "z"}}},
		{two, key.Range{Lo: "m"}, []key.Range{{Lo: "m", Hi: "m"}, {Lo: "m"}}},
		{two, key.Range{Lo: "abcdefghi", Hi: long(300)}, []key.Range{{Lo: "abcdefghi", Hi: "m"}, {Lo: "m", Hi: long(300)}}},
		{lone, key.Range{}, []key.Range{{}}},
		{lone, key.Range{Lo: "b", Hi: "c"}, []key.Range{{Lo: "b", Hi: "c"}}},
		{lone, key.Range{Lo: "z", Hi: "a"}, []key.Range{{Lo: "z", Hi: "a"}}},
		{lone, key.Range{Lo: long(300)}, []key.Range{{Lo: long(300)}}},
	} {
		for i, r := range c.want {
			if got := c.n.Range(i, c.all); got != r {
				t.Errorf("Range(%d, %#v) by %q is %#v, want %#v", i, c.all, c.n.Pivots(), got, r)
			}
		}
		for _, i := range ends(c.n.Len()) {
			if got := c.n.Range(i, c.all); got != (key.Range{}) {
				t.Errorf("Range(%d, %#v) is %#v", i, c.all, got)
			}
		}
	}
}

// P11.2: any nodes and ranges: a kid's part is that of layer 7's Cut, and a key of the range is in that of its kid alone.
func TestRangeAny(t *testing.T) {
	rnd := rand.New(rand.NewSource(2))
	for range 2000 {
		p := anyPlain(rnd, 9)
		n := of(t, p)
		all := key.Range{Lo: anyText(rnd), Hi: anyText(rnd)}
		k := anyKey(rnd)
		if got := n.KidOf(k); got != kidByWords(p.pivots, k) {
			t.Fatalf("KidOf(%q) by %q is %d", k, p.pivots, got)
		}
		for i, r := range all.Cut(p.pivots...) {
			got := n.Range(i, all)
			if got != r {
				t.Fatalf("Range(%d, %#v) by %q is %#v, want %#v", i, all, p.pivots, got, r)
			}
			if got.Has(k) != (all.Has(k) && i == n.KidOf(k)) {
				t.Fatalf("the range %#v of the kid %d, and the key %q, that is for %d", got, i, k, n.KidOf(k))
			}
		}
	}
}

// P11.2: no message, and messages to keys that are there and to keys that aren't.
func TestPut(t *testing.T) {
	p := three()
	n := of(t, p)
	put, del, add := msg.OfPut, msg.OfDel, msg.OfAdd
	c, g, x := p.list[0], p.list[1], p.list[2]
	for _, l := range []struct{ list, want []api.Msg }{
		{nil, p.list}, {[]api.Msg{}, p.list}, {[]api.Msg{put("c", "2")}, []api.Msg{put("c", "2"), g, x}}, {[]api.Msg{add("g", 5)}, []api.Msg{c, add("g", 7), x}}, {[]api.Msg{add("x", 5)}, []api.Msg{c, g, put("x", number(5))}}, {[]api.Msg{del("g")}, []api.Msg{c, del("g"), x}},
		{[]api.Msg{del("a")}, []api.Msg{del("a"), c, g, x}}, {[]api.Msg{put("p", "")}, []api.Msg{c, g, put("p", ""), x}}, {[]api.Msg{add("z", 1)}, []api.Msg{c, g, x, add("z", 1)}},
		{[]api.Msg{del("z"), add("g", 1), del("c"), put("a", "1"), add("c", 3), add("z", 4)}, []api.Msg{put("a", "1"), put("c", number(3)), add("g", 3), x, put("z", number(4))}},
	} {
		o, e := n.Put(l.list...)
		wantMade(t, o, e, plain{kids: p.kids, pivots: p.pivots, list: l.want})
	}
	want(t, n, p)
	o, e := of(t, plain{kids: []int{4}}).Put(p.list...)
	wantMade(t, o, e, plain{kids: []int{4}, list: p.list})
}

// P11.2: the first kid, the last one, those between; kids with messages, and without; an only kid.
func TestFlush(t *testing.T) {
	p := seven()
	n := of(t, p)
	for i, gone := range [][]api.Msg{p.list[:1], nil, p.list[1:3], nil, p.list[3:5], nil, p.list[5:]} {
		o, list, e := n.Flush(i)
		if e != api.OK || !slices.Equal(list, gone) || o.Buff().Len() != len(p.list)-len(gone) {
			t.Errorf("Flush(%d) is %#v, %d, want %#v", i, list, e, gone)
		}
		wantFlush(t, p, i)
		wantFlush(t, three(), i%3)
	}
	for _, i := range ends(7) {
		o, list, e := n.Flush(i)
		wantNone(t, o, e, api.ErrRange)
		if len(list) != 0 {
			t.Errorf("Flush(%d) is %#v", i, list)
		}
	}
	wantFlush(t, plain{kids: []int{4}, list: p.list}, 0)
	wantFlush(t, plain{kids: []int{4}}, 0)
	o, list, e := of(t, plain{kids: []int{4}, list: p.list}).Flush(1)
	if wantNone(t, o, e, api.ErrRange); len(list) != 0 {
		t.Errorf("%#v", list)
	}
	want(t, n, p)
}

// P11.2: messages at the least and at the greatest keys of each kid.
func TestFlushEdges(t *testing.T) {
	p := plain{kids: []int{1, 2, 3}, pivots: []string{"g", "p"}, list: []api.Msg{
		msg.OfDel("\x00"), msg.OfDel("f\xff\xff\xff\xff\xff\xff\xff"), msg.OfDel("g"), msg.OfDel("g\x00"), msg.OfDel("o\xff\xff\xff\xff\xff\xff\xff"), msg.OfDel("p"), msg.OfDel("p\x00"), msg.OfDel(strings.Repeat("\xff", 8)),
	}}
	n := of(t, p)
	for i, gone := range [][]api.Msg{p.list[:2], p.list[2:5], p.list[5:]} {
		if _, list, e := n.Flush(i); e != api.OK || !slices.Equal(list, gone) {
			t.Errorf("Flush(%d) is %#v, %d, want %#v", i, list, e, gone)
		}
		wantFlush(t, p, i)
	}
}

// P11.3: one part, and several, at the first kid, at one between, and at the last one.
func TestSwap(t *testing.T) {
	p := three()
	n := of(t, p)
	for _, c := range []struct {
		i      int
		parts  []inner.Part
		kids   []int
		pivots []string
	}{
		{0, []inner.Part{{Ref: 7}}, []int{7, 20, 30}, p.pivots}, {1, []inner.Part{{Low: "g", Ref: 7}}, []int{10, 7, 30}, p.pivots}, {2, []inner.Part{{Low: "p", Ref: 0}}, []int{10, 20, 0}, p.pivots}, {1, []inner.Part{{Ref: 20}}, p.kids, p.pivots},
		{0, []inner.Part{{Ref: 7}, {Low: "c", Ref: 8}}, []int{7, 8, 20, 30}, []string{"c", "g", "p"}}, {1, []inner.Part{{Ref: 7}, {Low: "k", Ref: 8}}, []int{10, 7, 8, 30}, []string{"g", "k", "p"}}, {2, []inner.Part{{Ref: 7}, {Low: "z", Ref: 8}}, []int{10, 20, 7, 8}, []string{"g", "p", "z"}},
		{0, []inner.Part{{Ref: 9}, {Low: "\x00", Ref: 8}, {Low: "c", Ref: 8}, {Low: "f\xff", Ref: 0}}, []int{9, 8, 8, 0, 20, 30}, []string{"\x00", "c", "f\xff", "g", "p"}},
		{1, []inner.Part{{Ref: 9}, {Low: "g\x00", Ref: 8}, {Low: "o", Ref: math.MaxInt}}, []int{10, 9, 8, math.MaxInt, 30}, []string{"g", "g\x00", "o", "p"}},
		{2, []inner.Part{{Ref: 10}, {Low: "q", Ref: 20}, {Low: "qrstuvwx", Ref: 30}, {Low: "\xff", Ref: 40}}, []int{10, 20, 10, 20, 30, 40}, []string{"g", "p", "q", "qrstuvwx", "\xff"}},
	} {
		// The first part's Low plays no part, whatever it is.
		for _, low := range []string{c.parts[0].Low, "", "a", "g", "p", "zz", "\xff", "abcdefghi", long(300)} {
			c.parts[0].Low = low
			o, e := n.Swap(c.i, c.parts...)
			wantMade(t, o, e, plain{kids: c.kids, pivots: c.pivots, list: p.list})
		}
	}
	want(t, n, p)
	lone := of(t, plain{kids: []int{4}, list: p.list})
	o, e := lone.Swap(0, inner.Part{Ref: 1}, inner.Part{Low: "m", Ref: 2})
	wantMade(t, o, e, plain{kids: []int{1, 2}, pivots: []string{"m"}, list: p.list})
	o, e = lone.Swap(0, inner.Part{Low: long(9), Ref: 1})
	wantMade(t, o, e, plain{kids: []int{1}, list: p.list})
}

// P11.3: no such kid, ahead of what is wrong with the parts; no parts; Lows that don't rise, that are no keys, that another kid's part has; Refs below 0.
func TestSwapWrong(t *testing.T) {
	p := three()
	n := of(t, p)
	for _, i := range ends(3) {
		for _, parts := range [][]inner.Part{nil, {}, {{Ref: 7}}, {{Ref: -1}}, {{Ref: 7}, {Low: "", Ref: 8}}} {
			o, e := n.Swap(i, parts...)
			wantNone(t, o, e, api.ErrRange)
		}
	}
	for i := range 3 {
		for _, parts := range [][]inner.Part{
			nil, {}, {{Ref: -1}}, {{Low: "g", Ref: math.MinInt}},
			{{Ref: 7}, {Low: "", Ref: 8}}, {{Ref: 7}, {Low: "abcdefghi", Ref: 8}}, {{Ref: 7}, {Low: "h", Ref: 8}, {Low: "hijklmnop", Ref: 9}}, {{Ref: 7}, {Low: long(264), Ref: 8}},
			{{Ref: 7}, {Low: "c", Ref: 8}, {Low: "b", Ref: 9}}, {{Ref: 7}, {Low: "k", Ref: 8}, {Low: "h", Ref: 9}}, {{Ref: 7}, {Low: "z", Ref: 8}, {Low: "y", Ref: 9}},
			{{Ref: 7}, {Low: "c", Ref: 8}, {Low: "c", Ref: 9}}, {{Ref: 7}, {Low: "k", Ref: 8}, {Low: "k", Ref: 9}}, {{Ref: 7}, {Low: "z", Ref: 8}, {Low: "z", Ref: 9}},
			{{Ref: 7}, {Low: "g", Ref: 8}}, {{Ref: 7}, {Low: "p", Ref: 8}}, {{Ref: 7}, {Low: "c", Ref: 8}, {Low: "z", Ref: 9}}, {{Ref: 7}, {Low: "c", Ref: 8}, {Low: "k", Ref: 9}}, {{Ref: 7}, {Low: "h", Ref: 8}, {Low: "z", Ref: 9}},
		} {
			o, e := n.Swap(i, parts...)
			wantNone(t, o, e, api.ErrArg)
		}
	}
	for i, lows := range [][]string{{"h", "k", "p", "q", "z"}, {"c", "f\xff", "g", "p", "z"}, {"c", "g", "k", "p", "o\xff"}} {
		for _, low := range lows {
			o, e := n.Swap(i, inner.Part{Ref: 7}, inner.Part{Low: low, Ref: 8})
			wantNone(t, o, e, api.ErrArg)
		}
	}
	for i, low := range []string{"c", "k", "z"} {
		for _, refs := range [][2]int{{-1, 8}, {7, -1}, {-1, -1}, {7, math.MinInt}} {
			o, e := n.Swap(i, inner.Part{Ref: refs[0]}, inner.Part{Low: low, Ref: refs[1]})
			wantNone(t, o, e, api.ErrArg)
		}
		o, e := n.Swap(i, inner.Part{Ref: 7}, inner.Part{Low: low, Ref: 8})
		wantMade(t, o, e, swapByWords(p, i, []inner.Part{{Ref: 7}, {Low: low, Ref: 8}}))
	}
	want(t, n, p)
}

// P11.3: the first two kids, the last two, those between, and both of two.
func TestFuse(t *testing.T) {
	p := seven()
	n := of(t, p)
	for _, ref := range []int{0, 1, 7, 99, math.MaxInt} {
		for i := range 6 {
			o, e := n.Fuse(i, ref)
			wantMade(t, o, e, fuseByWords(p, i, ref))
		}
	}
	o, e := n.Fuse(0, 9)
	wantMade(t, o, e, plain{kids: []int{9, 3, 4, 5, 6, 7}, pivots: p.pivots[1:], list: p.list})
	o, e = n.Fuse(5, 9)
	wantMade(t, o, e, plain{kids: []int{1, 2, 3, 4, 5, 9}, pivots: p.pivots[:5], list: p.list})
	o, e = of(t, plain{kids: []int{4, 5}, pivots: []string{"m"}, list: p.list}).Fuse(0, 0)
	wantMade(t, o, e, plain{kids: []int{0}, list: p.list})
	want(t, n, p)
}

// P11.3: no two such kids, ahead of a ref that can't be; a ref below 0.
func TestFuseWrong(t *testing.T) {
	for _, kids := range []int{1, 2, 3, 6, 7, 13} {
		p := many(kids)
		n := of(t, p)
		for _, ref := range []int{0, 5, -1, math.MinInt, math.MaxInt} {
			for _, i := range append(ends(kids), kids-1) {
				o, e := n.Fuse(i, ref)
				wantNone(t, o, e, api.ErrRange)
			}
			for i := range kids - 1 {
				if ref < 0 {
					o, e := n.Fuse(i, ref)
					wantNone(t, o, e, api.ErrArg)
				}
			}
		}
		want(t, n, p)
	}
}

// P11.4: the chapter's example: seven kids, two parts of four and of three, joined again.
func TestPartsExample(t *testing.T) {
	p := seven()
	parts, between := of(t, p).Parts()
	if len(parts) != 2 || !slices.Equal(between, []string{"h"}) {
		t.Fatal(len(parts), between)
	}
	want(t, parts[0], plain{kids: []int{1, 2, 3, 4}, pivots: []string{"b", "d", "f"}, list: p.list[:3]})
	want(t, parts[1], plain{kids: []int{5, 6, 7}, pivots: []string{"j", "l"}, list: p.list[3:]})
	want(t, join(t, parts[0], "h", parts[1]), p)
	wantParts(t, p)
}

// P11.4: how many kids the parts have, at MaxKids and twice MaxKids, one more, and others.
func TestPartsSizes(t *testing.T) {
	for _, c := range []struct {
		kids int
		want []int
	}{
		{1, []int{1}}, {2, []int{2}}, {5, []int{5}}, {6, []int{6}}, {7, []int{4, 3}}, {8, []int{4, 4}}, {9, []int{5, 4}}, {11, []int{6, 5}}, {12, []int{6, 6}}, {13, []int{5, 4, 4}}, {14, []int{5, 5, 4}}, {15, []int{5, 5, 5}}, {17, []int{6, 6, 5}}, {18, []int{6, 6, 6}}, {19, []int{5, 5, 5, 4}}, {25, []int{5, 5, 5, 5, 5}}, {31, []int{6, 5, 5, 5, 5, 5}},
	} {
		parts, between := of(t, many(c.kids)).Parts()
		var got []int
		for _, o := range parts {
			got = append(got, o.Len())
		}
		if !slices.Equal(got, c.want) || len(between) != len(c.want)-1 {
			t.Errorf("parts of %d, and %d pivots, want of %d", got, len(between), c.want)
		}
	}
	for kids := range 80 {
		wantParts(t, many(kids+1))
	}
}

// P11.4: a node of few enough kids is its only part, with all its messages, and there is no pivot.
func TestPartsAlone(t *testing.T) {
	for kids := range api.MaxKids {
		n := of(t, many(kids+1))
		parts, between := n.Parts()
		if len(parts) != 1 || !inner.Same(parts[0], n) || len(between) != 0 {
			t.Errorf("%d kids: %d parts, %q", kids+1, len(parts), between)
		}
	}
}

// P11.4: a pivot between both, nodes without messages, with messages to the same keys and to any keys; o's are put behind n's.
func TestJoin(t *testing.T) {
	p := three()
	lone, other := plain{kids: []int{4}}, plain{kids: []int{5}, list: []api.Msg{msg.OfDel("a"), msg.OfAdd("g", 5), msg.OfDel("x")}}
	behind := plain{kids: []int{7, 8}, pivots: []string{"t"}, list: []api.Msg{msg.OfDel("a"), msg.OfAdd("c", 1), msg.OfAdd("g", 5), msg.OfAdd("x", 6), msg.OfPut("z", "")}}
	o, e := of(t, p).Join("r", of(t, behind))
	wantMade(t, o, e, plain{kids: []int{10, 20, 30, 7, 8}, pivots: []string{"g", "p", "r", "t"}, list: []api.Msg{msg.OfDel("a"), msg.OfPut("c", "1"), msg.OfAdd("g", 7), msg.OfPut("x", number(6)), msg.OfPut("z", "")}})
	for _, c := range []struct {
		a     plain
		pivot string
		b     plain
	}{
		{lone, "a", lone}, {lone, "\x00", lone}, {lone, "abcdefgh", other}, {other, "m", other}, {other, "f", p}, {lone, "\x00", p}, {p, "q", lone}, {p, "\xff", other}, {p, "p\x00", behind}, {p, "s\xff", behind}, {many(6), "\x00\x00\x00\x01", many(1)},
	} {
		a, b := of(t, c.a), of(t, c.b)
		o, e := a.Join(c.pivot, b)
		wantMade(t, o, e, joinByWords(c.a, c.pivot, c.b))
		if e != api.OK {
			t.Errorf("Join(%q): %d", c.pivot, e)
		}
		want(t, a, c.a)
		want(t, b, c.b)
	}
	n := of(t, lone)
	if o, e := n.Join("k", n); e != api.OK || o.Len() != 2 {
		t.Error("with itself", e)
	}
}

// P11.4: a pivot that is the last one of the one, or the first one of the other, that is no key, pivots that don't rise, and a nil node, ahead of these.
func TestJoinWrong(t *testing.T) {
	p, behind, lone := three(), plain{kids: []int{7, 8}, pivots: []string{"t"}}, plain{kids: []int{4}}
	n, o := of(t, p), of(t, behind)
	for _, pivot := range []string{"p", "t", "", "g", "a", "o\xff", "z", "t\x00", "rrrrrrrrr", "r" + long(300)} {
		j, e := n.Join(pivot, o)
		wantNone(t, j, e, api.ErrArg)
		j, e = n.Join(pivot, nil)
		wantNone(t, j, e, api.ErrNil)
	}
	for _, pivot := range []string{"", "abcdefghi", long(256), long(300)} {
		j, e := of(t, lone).Join(pivot, of(t, lone))
		wantNone(t, j, e, api.ErrArg)
	}
	for _, pivot := range []string{"r", "s", "a", "t", "z"} {
		j, e := o.Join(pivot, n)
		wantNone(t, j, e, api.ErrArg)
		j, e = n.Join(pivot, n)
		wantNone(t, j, e, api.ErrArg)
	}
	j, e := n.Join("r", nil)
	wantNone(t, j, e, api.ErrNil)
	want(t, n, p)
	want(t, o, behind)
}

// P11.4: nodes with unlike kids, unlike pivots and unlike buffers, and nil.
func TestSame(t *testing.T) {
	list := three().list
	row := []plain{
		{kids: []int{1}}, {kids: []int{2}}, {kids: []int{1}, list: list}, {kids: []int{1}, list: list[:2]}, {kids: []int{1}, list: []api.Msg{msg.OfDel("c"), list[1], list[2]}},
		{kids: []int{1, 2}, pivots: []string{"g"}}, {kids: []int{2, 1}, pivots: []string{"g"}}, {kids: []int{1, 1}, pivots: []string{"g"}}, {kids: []int{1, 2}, pivots: []string{"h"}}, {kids: []int{1, 2}, pivots: []string{"gg"}}, {kids: []int{1, 2}, pivots: []string{"g"}, list: list}, {kids: []int{1, 2}, pivots: []string{"h"}, list: list},
		{kids: []int{1, 2, 3}, pivots: []string{"g", "h"}}, {kids: []int{1, 2, 3}, pivots: []string{"g", "i"}}, {kids: []int{1, 2, 3}, pivots: []string{"f", "h"}}, {kids: []int{1, 2, 4}, pivots: []string{"g", "h"}}, three(), seven(),
	}
	for i, x := range row {
		for j, y := range row {
			if got := inner.Same(of(t, x), of(t, y)); got != (i == j) {
				t.Errorf("Same of %#v and %#v is %v", x, y, got)
			}
		}
		if inner.Same(of(t, x), nil) || inner.Same(nil, of(t, x)) {
			t.Errorf("%#v is the same as nil", x)
		}
	}
	if !inner.Same(nil, nil) {
		t.Error("nil isn't the same as nil")
	}
}

// P11.4: nodes that were made in unlike ways are the same, if they have the same.
func TestSameHoweverMade(t *testing.T) {
	p := seven()
	n := of(t, p)
	turned := slices.Clone(p.list)
	slices.Reverse(turned)
	put, _ := of(t, plain{kids: p.kids, pivots: p.pivots}).Put(turned...)
	swapped, _ := n.Swap(3, inner.Part{Ref: 4}, inner.Part{Low: "g", Ref: 99})
	fused, _ := swapped.Fuse(3, 4)
	flushed, list, _ := n.Flush(4)
	back, _ := flushed.Put(list...)
	parts, between := n.Parts()
	for i, o := range []*inner.Inner{put, fused, back, join(t, parts[0], between[0], parts[1])} {
		if !inner.Same(o, n) || !inner.Same(n, o) {
			t.Errorf("%d: %d, %q, %#v isn't the same", i, o.Kids(), o.Pivots(), o.Buff().List())
		}
	}
	if inner.Same(swapped, n) || inner.Same(flushed, n) {
		t.Error("what was swapped, or flushed, is the same")
	}
}

// P11.5: parts, joined, are the node, and whichever kid is flushed, a message goes to the kid that its key is for: of any nodes.
func TestPartsAndFlushAny(t *testing.T) {
	rnd := rand.New(rand.NewSource(3))
	for range 1000 {
		p := anyPlain(rnd, 30)
		wantParts(t, p)
		n := of(t, p)
		rest := n
		for _, i := range rnd.Perm(n.Len()) {
			wantFlush(t, p, i)
			o, list, e := rest.Flush(i)
			if e != api.OK {
				t.Fatal(e)
			}
			for _, m := range list {
				if n.KidOf(m.Key) != i || !n.Range(i, key.Range{}).Has(m.Key) {
					t.Fatalf("%#v is flushed to the kid %d, by %q", m, i, p.pivots)
				}
			}
			rest = o
		}
		want(t, rest, plain{kids: p.kids, pivots: p.pivots})
	}
}

// P11.2 to P11.4: any nodes, into which are put, that are swapped, fused and joined in any ways.
func TestAny(t *testing.T) {
	rnd := rand.New(rand.NewSource(4))
	done := map[api.Errno]int{}
	for range 5000 {
		p, other := anyPlain(rnd, 9), anyPlain(rnd, 3)
		n := of(t, p)
		list := anyList(rnd, 10)
		o, e := n.Put(list...)
		wantMade(t, o, e, plain{kids: p.kids, pivots: p.pivots, list: putByWords(p.list, list)})

		i := rnd.Intn(len(p.kids))
		r := n.Range(i, key.Range{})
		parts := []inner.Part{{Low: anyText(rnd), Ref: rnd.Intn(9)}}
		for range rnd.Intn(3) {
			parts = append(parts, inner.Part{Low: r.Lo + anyText(rnd), Ref: rnd.Intn(20) - 1})
		}
		o, e = n.Swap(i, parts...)
		wantMade(t, o, e, swapByWords(p, i, parts))
		done[e]++

		if i+1 < len(p.kids) {
			ref := rnd.Intn(9) - 1
			o, e = n.Fuse(i, ref)
			wantMade(t, o, e, fuseByWords(p, i, ref))
		}

		pivot := anyText(rnd)
		o, e = n.Join(pivot, of(t, other))
		wantMade(t, o, e, joinByWords(p, pivot, other))
		done[e]++
		want(t, n, p)
	}
	if done[api.OK] < 500 || done[api.ErrArg] < 500 {
		t.Errorf("%d", done)
	}
}

// P1, rule 5: of a nil node nothing, 0, nil nodes and buffers, the zero range; ErrNil ahead of all others.
func TestNil(t *testing.T) {
	var none *inner.Inner
	if none.Len() != 0 || len(none.Kids()) != 0 || len(none.Pivots()) != 0 || none.Buff() != nil {
		t.Error(none.Len(), none.Kids(), none.Pivots(), none.Buff())
	}
	if parts, between := none.Parts(); len(parts) != 0 || len(between) != 0 {
		t.Error(len(parts), between)
	}
	for _, k := range []string{"", "a", long(9)} {
		if none.KidOf(k) != 0 {
			t.Errorf("KidOf(%q) is %d", k, none.KidOf(k))
		}
	}
	for _, i := range append(ends(0), 0, 1) {
		if r := none.Range(i, key.Range{Lo: "a", Hi: "b"}); r != (key.Range{}) {
			t.Errorf("%#v", r)
		}
		o, list, e := none.Flush(i)
		if wantNone(t, o, e, api.ErrNil); len(list) != 0 {
			t.Errorf("%#v", list)
		}
		for _, parts := range [][]inner.Part{nil, {{Ref: 1}}, {{Ref: -1}, {Low: "", Ref: 2}}} {
			o, e := none.Swap(i, parts...)
			wantNone(t, o, e, api.ErrNil)
		}
		for _, ref := range []int{-1, 0, 1} {
			o, e := none.Fuse(i, ref)
			wantNone(t, o, e, api.ErrNil)
		}
	}
	for _, list := range [][]api.Msg{nil, {}, three().list, wrongMsgs()} {
		o, e := none.Put(list...)
		wantNone(t, o, e, api.ErrNil)
	}
	for _, pivot := range []string{"", "m", long(9)} {
		for _, o := range []*inner.Inner{nil, of(t, three())} {
			j, e := none.Join(pivot, o)
			wantNone(t, j, e, api.ErrNil)
		}
	}
}

// roomy is a list with spare room, that has other things in it.
func roomy[T any](spare T, list ...T) []T {
	return append(list, spare, spare)[:len(list)]
}

// ruin changes all of a list, its spare room too.
func ruin[T any](list []T, by T) {
	list = list[:cap(list)]
	for i := range list {
		list[i] = by
	}
}

// Rule 3: kids, pivots, messages and parts that are handed in are neither changed nor kept, their spare room neither.
func TestHandedIn(t *testing.T) {
	p := three()
	kids, pivots, list := roomy(77, p.kids...), roomy("spare", p.pivots...), roomy(msg.OfDel("spare"), p.list...)
	slices.Reverse(list)
	parts := roomy(inner.Part{Low: "spare", Ref: 77}, inner.Part{Low: "a", Ref: 7}, inner.Part{Low: "c", Ref: 8})
	wasKids, wasPivots, wasList, wasParts := slices.Clone(kids[:5]), slices.Clone(pivots[:4]), slices.Clone(list[:5]), slices.Clone(parts[:4])

	n, _ := inner.Of(kids, pivots, list...)
	put, _ := of(t, plain{kids: []int{1}}).Put(list...)
	swapped, _ := n.Swap(0, parts...)
	n.Swap(1, parts...)
	n.Fuse(0, 1)
	n.Parts()
	if !slices.Equal(kids[:5], wasKids) || !slices.Equal(pivots[:4], wasPivots) || !slices.Equal(list[:5], wasList) || !slices.Equal(parts[:4], wasParts) {
		t.Errorf("%d, %q, %#v, %#v", kids[:5], pivots[:4], list[:5], parts[:4])
	}
	ruin(kids, -5)
	ruin(pivots, "ruined")
	ruin(list, msg.OfDel("ruined"))
	ruin(parts, inner.Part{Low: "ruined", Ref: -5})
	want(t, n, p)
	want(t, put, plain{kids: []int{1}, list: p.list})
	want(t, swapped, plain{kids: []int{7, 8, 20, 30}, pivots: []string{"c", "g", "p"}, list: p.list})
}

// Rule 3: a node stays as it was, whatever is made of it, and of what Kids, Pivots, Buff, Flush and Parts gave.
func TestNeverChanged(t *testing.T) {
	rnd := rand.New(rand.NewSource(5))
	for range 200 {
		var row []*inner.Inner
		var wants []plain
		keep := func(o *inner.Inner, e api.Errno) {
			if e != api.OK {
				return
			}
			row, wants = append(row, o), append(wants, plain{kids: slices.Clone(o.Kids()), pivots: slices.Clone(o.Pivots()), list: slices.Clone(o.Buff().List())})
		}
		keep(of(t, anyPlain(rnd, 20)), api.OK)
		for range 20 {
			n := row[rnd.Intn(len(row))]
			i := rnd.Intn(n.Len())
			keep(n.Put(anyList(rnd, 3)...))
			keep(n.Fuse(i, 7))
			low, _ := key.Next(n.Range(i, key.Range{}).Lo + "\x00")
			keep(n.Swap(i, inner.Part{Ref: 1}, inner.Part{Low: low, Ref: 2}))
			keep(n.Join(strings.Repeat("\xff", 8), of(t, anyPlain(rnd, 1))))
			o, list, e := n.Flush(i)
			keep(o, e)
			ruin(list, msg.OfDel("ruined"))
			parts, between := n.Parts()
			for _, o := range parts {
				keep(o, api.OK)
			}
			ruin(parts, nil)
			ruin(between, "ruined")
			ruin(n.Kids(), -5)
			ruin(n.Pivots(), "ruined")
			ruin(n.Buff().List(), msg.OfDel("ruined"))
			n.Buff().With(anyList(rnd, 3)...)
		}
		for i, o := range row {
			want(t, o, wants[i])
		}
	}
}

// Rule 3: lists that two calls gave share no memory.
func TestListsApart(t *testing.T) {
	n := of(t, many(20))
	kids, pivots, parts := n.Kids(), n.Pivots(), partsOf(n)
	_, list, _ := n.Flush(0)
	wasKids, wasPivots, wasList := slices.Clone(kids), slices.Clone(pivots), slices.Clone(list)
	ruin(n.Kids(), -5)
	ruin(n.Pivots(), "ruined")
	_, more, _ := n.Flush(0)
	ruin(more, msg.OfDel("ruined"))
	for _, o := range parts {
		ruin(o.Kids(), -5)
		ruin(o.Pivots(), "ruined")
	}
	if !slices.Equal(kids, wasKids) || !slices.Equal(pivots, wasPivots) || !slices.Equal(list, wasList) {
		t.Errorf("%d, %q, %#v", kids, pivots, list)
	}
	want(t, n, many(20))
}

// partsOf are the parts of a node, without the pivots between them.
func partsOf(n *inner.Inner) []*inner.Inner {
	parts, _ := n.Parts()
	return parts
}

// Great nodes, long lists of messages and of parts are worked on to their end.
func TestMany(t *testing.T) {
	const kids = 100000
	p := many(kids)
	n := of(t, p)
	want(t, n, p)
	for i := range kids {
		if i > 0 && n.KidOf(p.pivots[i-1]) != i || !n.Range(i, key.Range{}).Has(p.list[i].Key) {
			t.Fatal(i)
		}
	}
	parts, between := n.Parts()
	if len(parts) != (kids+5)/6 || len(between) != len(parts)-1 {
		t.Fatal(len(parts), len(between))
	}
	at := 0
	for _, o := range parts {
		if o.Len() < 5 || o.Len() > 6 || !slices.Equal(o.Kids(), p.kids[at:at+o.Len()]) || !slices.Equal(o.Buff().List(), p.list[at:at+o.Len()]) {
			t.Fatal(at, o.Len())
		}
		at += o.Len()
	}
	comes := make([]inner.Part, kids)
	for i := range comes {
		comes[i] = inner.Part{Low: number(kids + uint64(i)), Ref: i}
	}
	o, e := n.Swap(kids-1, comes...)
	wantMade(t, o, e, swapByWords(p, kids-1, comes))
	o, e = o.Fuse(kids, 3)
	if e != api.OK || o.Len() != 2*kids-2 {
		t.Error(e, o.Len())
	}
}

// FuzzAny holds all calls against the words of the chapter, at any kids, pivots, message, place, range and parts.
func FuzzAny(f *testing.F) {
	f.Add(1, 2, 3, "g", "p", 1, "k", "v", 1, "b", "x", 4, "h")
	f.Add(0, -1, 3, "g", "p", 3, "g", number(7), 0, "", "", 0, "")
	f.Add(5, 5, 5, "p", "g", 2, "", "", -1, "x", "a", -1, "abcdefghi")
	f.Add(0, 1, 2, "g", "h", 2, "g", "", 2, "h", "g", 9, "z")
	f.Fuzz(func(t *testing.T, x, y, z int, low, high string, kind int, k, v string, i int, lo, hi string, ref int, pivot string) {
		p := plain{kids: []int{x, y, z}, pivots: []string{low, high}, list: []api.Msg{{Kind: kind, Key: k, Val: v}}}
		n, e := inner.Of(p.kids, p.pivots, p.list...)
		wantMade(t, n, e, p)
		if n == nil {
			p = three()
			n = of(t, p)
		}
		if n.KidOf(k) != kidByWords(p.pivots, k) {
			t.Fatalf("KidOf(%q) is %d", k, n.KidOf(k))
		}
		all := key.Range{Lo: lo, Hi: hi}
		parts := []inner.Part{{Low: lo, Ref: ref}, {Low: pivot, Ref: x}}
		swapped, e := n.Swap(i, parts...)
		if i < 0 || i > 2 {
			wantNone(t, swapped, e, api.ErrRange)
			if n.Range(i, all) != (key.Range{}) {
				t.Fatalf("Range(%d) is %#v", i, n.Range(i, all))
			}
		} else {
			wantMade(t, swapped, e, swapByWords(p, i, parts))
			wantFlush(t, p, i)
			if n.Range(i, all) != all.Cut(p.pivots...)[i] {
				t.Fatalf("Range(%d, %#v) is %#v", i, all, n.Range(i, all))
			}
		}
		fused, e := n.Fuse(i, ref)
		if i < 0 || i > 1 {
			wantNone(t, fused, e, api.ErrRange)
		} else {
			wantMade(t, fused, e, fuseByWords(p, i, ref))
		}
		joined, e := n.Join(pivot, of(t, plain{kids: []int{4}, list: three().list}))
		wantMade(t, joined, e, joinByWords(p, pivot, plain{kids: []int{4}, list: three().list}))
		wantParts(t, p)
		want(t, n, p)
	})
}
