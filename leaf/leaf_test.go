package leaf_test

import (
	"encoding/binary"
	"math"
	"math/rand"
	"slices"
	"strings"
	"testing"

	"granger/api"
	"granger/key"
	"granger/leaf"
	"granger/msg"
)

// long is a text of so many bytes.
func long(n int) string {
	return strings.Repeat("x", n)
}

// number is a number's value, the highest byte first.
func number(n uint64) string {
	return string(binary.BigEndian.AppendUint64(nil, n))
}

// item is a key with its value.
func item(k, v string) api.Item {
	return api.Item{Key: k, Val: v}
}

// of is a leaf with these items, all of which can be.
func of(t *testing.T, items ...api.Item) *leaf.Leaf {
	t.Helper()
	l, e := leaf.Of(items...)
	if e != api.OK || l == nil {
		t.Fatalf("Of(%q): %d", items, e)
	}
	return l
}

// ten is the chapter's example: ten items of 26 bytes, rising.
func ten() []api.Item {
	var items []api.Item
	for i := range 10 {
		items = append(items, item("aaaaaaa"+string(rune('a'+i)), strings.Repeat("v", 16)))
	}
	return items
}

// sized are items that rise, of these weights, each from 10 to 26.
func sized(weights ...int) []api.Item {
	var items []api.Item
	for i, w := range weights {
		items = append(items, item(number(uint64(i)), long(w-10)))
	}
	return items
}

// anyItems are up to so many items that rise, with keys and values of all lengths, of few letters, so that keys meet often.
func anyItems(rnd *rand.Rand, most int) []api.Item {
	byKey := map[string]api.Item{}
	for range rnd.Intn(most + 1) {
		k := anyKey(rnd)
		byKey[k] = item(k, anyVal(rnd))
	}
	var items []api.Item
	for _, x := range byKey {
		items = append(items, x)
	}
	slices.SortFunc(items, func(a, b api.Item) int { return strings.Compare(a.Key, b.Key) })
	return items
}

// anyKey is a key of 1 to 8 bytes, more often a short one.
func anyKey(rnd *rand.Rand) string {
	b := make([]byte, 1+rnd.Intn(1+rnd.Intn(8)))
	for i := range b {
		b[i] = "\x00ab\xff"[rnd.Intn(4)]
	}
	return string(b)
}

// anyVal is a value of 0 to 16 bytes, or a number's.
func anyVal(rnd *rand.Rand) string {
	if rnd.Intn(3) == 0 {
		return number(rnd.Uint64())
	}
	return strings.Repeat("v", rnd.Intn(17))
}

// anyMsg is a message that can be.
func anyMsg(rnd *rand.Rand) api.Msg {
	switch rnd.Intn(3) {
	case 0:
		return msg.OfPut(anyKey(rnd), anyVal(rnd))
	case 1:
		return msg.OfDel(anyKey(rnd))
	}
	return msg.OfAdd(anyKey(rnd), rnd.Uint64())
}

// mixed are the same items in another order.
func mixed(rnd *rand.Rand, items []api.Item) []api.Item {
	list := slices.Clone(items)
	rnd.Shuffle(len(list), func(i, j int) { list[i], list[j] = list[j], list[i] })
	return list
}

// weightByWords is the weight of items.
func weightByWords(items []api.Item) int {
	sum := 0
	for _, x := range items {
		sum += 2 + len(x.Key) + len(x.Val)
	}
	return sum
}

// withByWords is what messages make of items, one by one, in a map.
func withByWords(items []api.Item, list []api.Msg) []api.Item {
	vals := map[string]string{}
	for _, x := range items {
		vals[x.Key] = x.Val
	}
	for _, m := range list {
		old, had := vals[m.Key]
		switch {
		case m.Kind == 2:
			delete(vals, m.Key)
		case m.Kind == 1 || !had:
			vals[m.Key] = m.Val
		case len(old) == 8:
			vals[m.Key] = number(binary.BigEndian.Uint64([]byte(old)) + binary.BigEndian.Uint64([]byte(m.Val)))
		}
	}
	var row []api.Item
	for k, v := range vals {
		row = append(row, item(k, v))
	}
	slices.SortFunc(row, func(a, b api.Item) int { return strings.Compare(a.Key, b.Key) })
	return row
}

// partsByWords are the items of each part, as the chapter's words tell them.
func partsByWords(items []api.Item) [][]api.Item {
	all := weightByWords(items)
	if all <= 240 {
		return [][]api.Item{items}
	}
	n := 0
	for 2*weightByWords(items[:n]) < all {
		n++
	}
	return append(partsByWords(items[:n]), partsByWords(items[n:])...)
}

// wantItems looks whether a leaf has just these items, which rise, by all calls that tell of them.
func wantItems(t *testing.T, l *leaf.Leaf, want []api.Item) {
	t.Helper()
	if l == nil {
		t.Fatalf("no leaf, want one of %q", want)
	}
	if got := l.Items(); !slices.Equal(got, want) {
		t.Fatalf("the items are %q, want %q", got, want)
	}
	if l.Len() != len(want) || l.Weight() != weightByWords(want) {
		t.Fatalf("%d items of weight %d, want %d of %d", l.Len(), l.Weight(), len(want), weightByWords(want))
	}
	low := ""
	if len(want) > 0 {
		low = want[0].Key
	}
	if l.Low() != low {
		t.Fatalf("the least key is %q, want %q", l.Low(), low)
	}
	for _, x := range want {
		wantFound(t, l, x.Key, x.Val)
	}
}

func wantFound(t *testing.T, l *leaf.Leaf, k, v string) {
	t.Helper()
	if got, has := l.Find(k); got != v || !has {
		t.Fatalf("Find(%q) is %q, %v, want %q", k, got, has, v)
	}
}

func wantMissing(t *testing.T, l *leaf.Leaf, k string) {
	t.Helper()
	if got, has := l.Find(k); got != "" || has {
		t.Fatalf("Find(%q) is %q, %v, want none", k, got, has)
	}
}

func wantWith(t *testing.T, l *leaf.Leaf, list []api.Msg, want ...api.Item) {
	t.Helper()
	got, e := l.With(list...)
	if e != api.OK {
		t.Fatalf("With(%#v): %d", list, e)
	}
	wantItems(t, got, want)
}

func wantNoLeaf(t *testing.T, l *leaf.Leaf, e, want api.Errno) {
	t.Helper()
	if l != nil || e != want {
		t.Fatalf("a leaf of %q, and %d, want %d", l.Items(), e, want)
	}
}

// wantParts holds Parts against the chapter's words, and against P9.4.
func wantParts(t *testing.T, l *leaf.Leaf) {
	t.Helper()
	parts, want := l.Parts(), partsByWords(l.Items())
	if len(parts) != len(want) {
		t.Fatalf("%d parts, want %d", len(parts), len(want))
	}
	joined := of(t)
	for i, p := range parts {
		if !slices.Equal(p.Items(), want[i]) || p.Weight() > 240 || len(parts) > 1 && p.Len() == 0 {
			t.Fatalf("part %d is %q, of weight %d, want %q", i, p.Items(), p.Weight(), want[i])
		}
		var e api.Errno
		if joined, e = joined.Join(p); e != api.OK {
			t.Fatalf("part %d isn't joined: %d", i, e)
		}
	}
	if !leaf.Same(joined, l) {
		t.Fatalf("joined the parts are %q, want %q", joined.Items(), l.Items())
	}
}

// P9.1: items told in rising order, turned round and mixed are one leaf.
func TestOf(t *testing.T) {
	turned := ten()
	slices.Reverse(turned)
	for _, items := range [][]api.Item{ten(), turned, mixed(rand.New(rand.NewSource(1)), ten())} {
		l := of(t, items...)
		wantItems(t, l, ten())
		if l.Len() != 10 || l.Weight() != 260 || l.Low() != "aaaaaaaa" {
			t.Errorf("%d items of weight %d, the least %q", l.Len(), l.Weight(), l.Low())
		}
	}
}

// P9.1: no item, and one.
func TestOfFew(t *testing.T) {
	wantItems(t, of(t), nil)
	wantItems(t, of(t, []api.Item{}...), nil)
	wantItems(t, of(t, item("k", "")), []api.Item{{Key: "k"}})
	wantMissing(t, of(t), "k")
	wantMissing(t, of(t), "")
	if l := of(t, item("k", "")); l.Weight() != 3 || l.Len() != 1 || l.Low() != "k" {
		t.Error(l.Weight(), l.Len(), l.Low())
	}
	if l := of(t, item("abcdefgh", long(16))); l.Weight() != 26 {
		t.Error(l.Weight())
	}
}

// P9.1: keys and values at the edges that the document names, alone and among others.
func TestOfEdges(t *testing.T) {
	for _, c := range []struct {
		x  api.Item
		ok bool
	}{
		{item("", ""), false}, {item("", "v"), false}, {item("k", ""), true}, {item("k", "v"), true}, {item("\x00", "\x00"), true}, {item("\xff", "\xff"), true},
		{item("abcdefg", "v"), true}, {item("abcdefgh", "v"), true}, {item("abcdefghi", "v"), false}, {item("ééééé", "v"), false}, {item(long(256), "v"), false}, {item(long(264), "v"), false},
		{item("k", long(15)), true}, {item("k", long(16)), true}, {item("k", long(17)), false}, {item("k", long(256)), false}, {item("k", long(272)), false}, {item("", long(17)), false}, {item("abcdefgh", long(16)), true}, {item("abcdefghi", long(17)), false},
	} {
		for _, list := range [][]api.Item{{c.x}, {c.x, item("m", "1")}, {item("m", "1"), c.x}, {item("z", "1"), c.x, item("A", "2")}} {
			l, e := leaf.Of(list...)
			if !c.ok {
				wantNoLeaf(t, l, e, api.ErrArg)
				continue
			}
			slices.SortFunc(list, func(a, b api.Item) int { return strings.Compare(a.Key, b.Key) })
			wantItems(t, l, list)
		}
	}
}

// P9.1: two items of one key, with one value and with two, side by side and apart; ErrArg stands ahead of that.
func TestOfTwins(t *testing.T) {
	a, b, c := item("a", "1"), item("b", "2"), item("c", "3")
	for _, list := range [][]api.Item{{a, a}, {a, item("a", "2")}, {a, item("a", "")}, {a, b, a}, {b, a, c, item("b", "9")}, {c, b, a, c}, {a, b, c, c}, {a, a, a}} {
		l, e := leaf.Of(list...)
		wantNoLeaf(t, l, e, api.ErrState)
		for _, wrong := range []api.Item{item("", "1"), item("abcdefghi", ""), item("d", long(17))} {
			l, e = leaf.Of(append([]api.Item{wrong}, list...)...)
			wantNoLeaf(t, l, e, api.ErrArg)
			l, e = leaf.Of(append(slices.Clone(list), wrong)...)
			wantNoLeaf(t, l, e, api.ErrArg)
		}
	}
	wantItems(t, of(t, item("a", "1"), item("a\x00", "1"), item("A", "1")), []api.Item{item("A", "1"), item("a", "1"), item("a\x00", "1")})
}

// P9.1: keys stand in the order of their bytes, a beginning ahead of what is longer.
func TestOrder(t *testing.T) {
	var want []api.Item
	for _, k := range []string{"\x00", "\x00\x00", "\x00a", "A", "a", "a\x00", "aa", "ab", "abcdefg", "abcdefgh", "b", "é", "\xff", "\xff\x00", "\xff\xff", strings.Repeat("\xff", 8)} {
		want = append(want, item(k, k))
	}
	rnd := rand.New(rand.NewSource(2))
	for range 50 {
		wantItems(t, of(t, mixed(rnd, want)...), want)
	}
}

// P9.1: a key that is there, keys that aren't, and what is no key.
func TestFind(t *testing.T) {
	l := of(t, item("d", "4"), item("b", ""), item("f", long(16)), item("bb", "x"))
	wantFound(t, l, "b", "")
	wantFound(t, l, "bb", "x")
	wantFound(t, l, "d", "4")
	wantFound(t, l, "f", long(16))
	for _, k := range []string{"a", "b\x00", "ba", "bba", "bc", "c", "e", "g", "\x00", "\xff", "abcdefgh", "", "bcdefghij", "d" + strings.Repeat("\x00", 8), long(9), long(300)} {
		wantMissing(t, l, k)
	}
}

// P9.1: any items, in any order; every key is found and no other one.
func TestOfAny(t *testing.T) {
	rnd := rand.New(rand.NewSource(3))
	for range 2000 {
		items := anyItems(rnd, 40)
		l := of(t, mixed(rnd, items)...)
		wantItems(t, l, items)
		for range 20 {
			k := anyKey(rnd)
			if !slices.ContainsFunc(items, func(x api.Item) bool { return x.Key == k }) {
				wantMissing(t, l, k)
			}
		}
		if len(items) == 0 {
			continue
		}
		twin := items[rnd.Intn(len(items))]
		twin.Val = anyVal(rnd)
		no, e := leaf.Of(mixed(rnd, append(items, twin))...)
		wantNoLeaf(t, no, e, api.ErrState)
	}
}

// P9.2: no message, and a Put, a Del and an Add to keys that are there and to keys that aren't.
func TestWith(t *testing.T) {
	b, d, f := item("b", "2"), item("d", number(5)), item("f", "")
	l := of(t, b, d, f)
	put, del, add := msg.OfPut, msg.OfDel, msg.OfAdd
	for _, c := range []struct {
		list []api.Msg
		want []api.Item
	}{
		{nil, []api.Item{b, d, f}}, {[]api.Msg{}, []api.Item{b, d, f}},
		{[]api.Msg{put("b", "x")}, []api.Item{item("b", "x"), d, f}}, {[]api.Msg{put("b", "2")}, []api.Item{b, d, f}}, {[]api.Msg{put("b", "")}, []api.Item{item("b", ""), d, f}}, {[]api.Msg{put("f", long(16))}, []api.Item{b, d, item("f", long(16))}},
		{[]api.Msg{put("a", "1")}, []api.Item{item("a", "1"), b, d, f}}, {[]api.Msg{put("c", "")}, []api.Item{b, item("c", ""), d, f}}, {[]api.Msg{put("g", "7")}, []api.Item{b, d, f, item("g", "7")}},
		{[]api.Msg{del("b")}, []api.Item{d, f}}, {[]api.Msg{del("d")}, []api.Item{b, f}}, {[]api.Msg{del("f")}, []api.Item{b, d}}, {[]api.Msg{del("a")}, []api.Item{b, d, f}}, {[]api.Msg{del("c")}, []api.Item{b, d, f}}, {[]api.Msg{del("g")}, []api.Item{b, d, f}}, {[]api.Msg{del("f"), del("b"), del("d")}, nil},
		{[]api.Msg{add("d", 7)}, []api.Item{b, item("d", number(12)), f}}, {[]api.Msg{add("d", 0)}, []api.Item{b, d, f}}, {[]api.Msg{add("d", math.MaxUint64)}, []api.Item{b, item("d", number(4)), f}}, {[]api.Msg{add("b", 7)}, []api.Item{b, d, f}}, {[]api.Msg{add("f", 7)}, []api.Item{b, d, f}}, {[]api.Msg{add("c", 7)}, []api.Item{b, item("c", number(7)), d, f}},
		{[]api.Msg{put("g", "7"), del("b"), put("a", "1"), add("d", 1)}, []api.Item{item("a", "1"), item("d", number(6)), f, item("g", "7")}},
	} {
		wantWith(t, l, c.list, c.want...)
	}
	wantItems(t, l, []api.Item{b, d, f})
}

// P9.2: an Add to values of all lengths.
func TestWithAdd(t *testing.T) {
	for n := range 17 {
		want := item("k", long(n))
		if n == 8 {
			want.Val = "xxxxxxxy"
		}
		wantWith(t, of(t, item("k", long(n))), []api.Msg{msg.OfAdd("k", 1)}, want)
	}
	for _, c := range []struct{ val, add, want uint64 }{{5, 7, 12}, {0, 0, 0}, {255, 1, 256}, {1<<63 - 1, 1, 1 << 63}, {1 << 63, 1 << 63, 0}, {1<<64 - 1, 1, 0}, {1<<64 - 1, 1<<64 - 1, 1<<64 - 2}} {
		wantWith(t, of(t, item("k", number(c.val))), []api.Msg{msg.OfAdd("k", c.add)}, item("k", number(c.want)))
	}
}

// P9.2: several messages to one key, in their order, among others to other keys.
func TestWithSeveralToOne(t *testing.T) {
	put, del, add := msg.OfPut, msg.OfDel("k"), msg.OfAdd
	for _, c := range []struct {
		list []api.Msg
		want string
		has  bool
	}{
		{[]api.Msg{put("k", "1"), put("k", "2")}, "2", true}, {[]api.Msg{put("k", "2"), put("k", "1")}, "1", true}, {[]api.Msg{put("k", "1"), del}, "", false}, {[]api.Msg{del, put("k", "1")}, "1", true}, {[]api.Msg{del, del}, "", false},
		{[]api.Msg{add("k", 3), add("k", 4)}, "old", true}, {[]api.Msg{del, add("k", 3), add("k", 4)}, number(7), true}, {[]api.Msg{add("k", 3), del, add("k", 4)}, number(4), true}, {[]api.Msg{add("k", 3), add("k", 4), del}, "", false},
		{[]api.Msg{put("k", "x"), add("k", 3)}, "x", true}, {[]api.Msg{put("k", number(1)), add("k", 3)}, number(4), true}, {[]api.Msg{add("k", 3), put("k", number(1))}, number(1), true}, {[]api.Msg{put("k", ""), add("k", 3), del, add("k", 9), put("k", ""), add("k", 2)}, "", true},
	} {
		var apart []api.Msg
		for _, m := range c.list {
			apart = append(apart, msg.OfPut("z", "1"), m, msg.OfDel("a"), msg.OfDel("z"))
		}
		want := []api.Item{item("j", "1"), item("k", c.want), item("l", "2")}
		if !c.has {
			want = slices.Delete(want, 1, 2)
		}
		l := of(t, item("a", "0"), item("j", "1"), item("k", "old"), item("l", "2"))
		wantWith(t, l, apart, want...)
		wantWith(t, l, c.list, slices.Concat([]api.Item{item("a", "0")}, want)...)
	}
	wantWith(t, of(t), []api.Msg{add("n", 3), add("n", 4)}, item("n", number(7)))
}

// P9.2: if one message can't be, wherever it stands, there is no new leaf.
func TestWithWrong(t *testing.T) {
	a, b := msg.OfPut("b", "9"), msg.OfDel("d")
	for _, m := range []api.Msg{
		{}, {Kind: 0, Key: "b"}, {Kind: 4, Key: "b"}, {Kind: -1, Key: "b"}, {Kind: 257, Key: "b"}, {Kind: math.MinInt, Key: "b"}, {Kind: math.MaxInt, Key: "b"},
		msg.OfPut("", "v"), msg.OfPut("abcdefghi", "v"), msg.OfPut("b", long(17)), msg.OfDel(""), msg.OfDel("abcdefghi"), {Kind: msg.Del, Key: "b", Val: "x"}, msg.OfAdd("", 1), msg.OfAdd("abcdefghi", 1), {Kind: msg.Add, Key: "b", Val: long(7)}, {Kind: msg.Add, Key: "b", Val: long(9)}, {Kind: msg.Add, Key: "b"},
	} {
		for _, items := range [][]api.Item{nil, {item("b", "2"), item("d", "4")}} {
			l := of(t, items...)
			for _, list := range [][]api.Msg{{m}, {m, a, b}, {a, m, b}, {a, b, m}, {m, m}} {
				got, e := l.With(list...)
				wantNoLeaf(t, got, e, api.ErrArg)
				wantItems(t, l, items)
			}
		}
	}
}

// P9.2: rows of any messages, against a map that takes them one by one; all at once come to the same as one by one.
func TestWithAny(t *testing.T) {
	rnd := rand.New(rand.NewSource(4))
	for range 3000 {
		items := anyItems(rnd, 30)
		list := make([]api.Msg, rnd.Intn(40))
		for i := range list {
			list[i] = anyMsg(rnd)
		}
		l := of(t, items...)
		want := withByWords(items, list)
		wantWith(t, l, list, want...)
		step := l
		for _, m := range list {
			step, _ = step.With(m)
		}
		wantItems(t, step, want)
		wantItems(t, l, items)
	}
}

// P9.2: ranges that have all, some and none of the keys, without an end, turned, and such that can't be.
func TestWithin(t *testing.T) {
	b, bb, d, f := item("b", "2"), item("bb", ""), item("d", "4"), item("f", long(16))
	l := of(t, f, d, bb, b)
	for _, c := range []struct {
		lo, hi string
		want   []api.Item
	}{
		{"", "", []api.Item{b, bb, d, f}}, {"a", "z", []api.Item{b, bb, d, f}}, {"b", "g", []api.Item{b, bb, d, f}}, {"b", "f\x00", []api.Item{b, bb, d, f}},
		{"b", "f", []api.Item{b, bb, d}}, {"", "f", []api.Item{b, bb, d}}, {"b\x00", "d", []api.Item{bb}}, {"bb", "bb\x00", []api.Item{bb}}, {"c", "e", []api.Item{d}}, {"d", "d\x00", []api.Item{d}}, {"", "b", nil}, {"", "b\x00", []api.Item{b}},
		{"b", "", []api.Item{b, bb, d, f}}, {"bb", "", []api.Item{bb, d, f}}, {"c", "", []api.Item{d, f}}, {"f", "", []api.Item{f}}, {"f\x00", "", nil}, {"\xff", "", nil},
		{"b", "b", nil}, {"c", "d", nil}, {"g", "z", nil}, {"", "a", nil}, {"f", "b", nil}, {"z", "a", nil}, {"d\x00", "d", nil},
		{"bbbbbbbbb", "", []api.Item{d, f}}, {"b", "dddddddddd", []api.Item{b, bb, d}}, {"b\x00\x00\x00\x00\x00\x00\x00\x00", "d", []api.Item{bb}}, {long(300), "", nil}, {"", long(300), []api.Item{b, bb, d, f}},
	} {
		wantItems(t, l.Within(key.Range{Lo: c.lo, Hi: c.hi}), c.want)
		wantItems(t, of(t).Within(key.Range{Lo: c.lo, Hi: c.hi}), nil)
	}
	wantItems(t, l, []api.Item{b, bb, d, f})
}

// P9.2: any ranges of any leaves: just the items whose keys the range has.
func TestWithinAny(t *testing.T) {
	rnd := rand.New(rand.NewSource(5))
	for range 3000 {
		items := anyItems(rnd, 30)
		r := key.Range{Lo: anyKey(rnd), Hi: anyKey(rnd)}
		if rnd.Intn(4) == 0 {
			r.Hi = ""
		}
		var want []api.Item
		for _, x := range items {
			if x.Key >= r.Lo && (r.Hi == "" || x.Key < r.Hi) {
				want = append(want, x)
			}
		}
		wantItems(t, of(t, items...).Within(r), want)
	}
}

// P9.3: the chapter's example.
func TestPartsOfTen(t *testing.T) {
	l := of(t, ten()...)
	parts := l.Parts()
	if len(parts) != 2 {
		t.Fatal(len(parts))
	}
	wantItems(t, parts[0], ten()[:5])
	wantItems(t, parts[1], ten()[5:])
	wantParts(t, l)
}

// P9.3: a leaf that isn't too heavy is alone: of no item, of one, and of the weight LeafMax.
func TestPartsOfOne(t *testing.T) {
	full := append(ten()[:9], item("b", "abc"))
	if weightByWords(full) != 240 {
		t.Fatal(weightByWords(full))
	}
	for _, items := range [][]api.Item{nil, {item("k", "")}, ten()[:9], full} {
		l := of(t, items...)
		parts := l.Parts()
		if len(parts) != 1 || !leaf.Same(parts[0], l) {
			t.Fatalf("%d parts of a leaf of weight %d", len(parts), l.Weight())
		}
		wantItems(t, parts[0], items)
		wantParts(t, l)
	}
}

// P9.3: a byte above LeafMax, and leaves whose half is met just so, is passed by a byte, and is missed by one.
func TestPartsOfTwo(t *testing.T) {
	for _, c := range []struct {
		weights []int
		first   int
	}{
		{[]int{26, 26, 26, 26, 17, 26, 26, 26, 26, 16}, 5},             // 121 of 241, where 120 and a half is asked
		{[]int{26, 26, 26, 26, 16, 26, 26, 26, 26, 17}, 6},             // 120 of 241
		{[]int{26, 26, 26, 26, 17, 26, 26, 26, 26, 17}, 5},             // 121 of 242, just half
		{[]int{26, 26, 26, 26, 16, 26, 26, 26, 26, 18}, 6},             // 120 of 242
		{[]int{10, 10, 10, 10, 10, 26, 26, 26, 26, 26, 26, 26, 26}, 9}, // 128 of 258, where 129 is asked
		{[]int{26, 26, 26, 26, 26, 26, 26, 26, 10, 10, 10, 10, 10}, 5}, // 130 of 258
	} {
		l := of(t, sized(c.weights...)...)
		parts := l.Parts()
		if len(parts) != 2 || parts[0].Len() != c.first || parts[1].Len() != len(c.weights)-c.first {
			t.Errorf("%d: %d parts, the first one of %d items", c.weights, len(parts), parts[0].Len())
		}
		wantParts(t, l)
	}
}

// P9.3: the half of a half: of 481 bytes the half is too heavy itself, and the rest isn't.
func TestPartsOfThree(t *testing.T) {
	var weights []int
	for range 18 {
		weights = append(weights, 26)
	}
	l := of(t, sized(append(weights, 13)...)...)
	parts := l.Parts()
	if l.Weight() != 481 || len(parts) != 3 || parts[0].Len() != 5 || parts[1].Len() != 5 || parts[2].Len() != 9 {
		t.Errorf("%d parts of %d", len(parts), l.Weight())
	}
	wantParts(t, l)
}

// P9.3, P9.4: leaves of any weight from 240 on, and great ones with items of unlike weights.
func TestPartsAny(t *testing.T) {
	rnd := rand.New(rand.NewSource(6))
	for n := range 200 {
		for range 5 {
			weights := make([]int, n)
			for i := range weights {
				weights[i] = 10 + rnd.Intn(17)
				if n%2 == 0 {
					weights[i] = []int{10, 26}[rnd.Intn(2)]
				}
			}
			wantParts(t, of(t, sized(weights...)...))
		}
	}
	for range 300 {
		wantParts(t, of(t, anyItems(rnd, 400)...))
	}
}

// P9.3: leaves whose keys stand ahead, that meet in a key, that stand behind, that are mixed, and of no item.
func TestJoin(t *testing.T) {
	a, b, bb, c := item("a", "1"), item("b", "2"), item("b\x00", ""), item("c", "3")
	for _, x := range []struct {
		left, right []api.Item
		e           api.Errno
	}{
		{[]api.Item{a}, []api.Item{b}, api.OK}, {[]api.Item{a, b}, []api.Item{bb, c}, api.OK}, {[]api.Item{b}, []api.Item{bb}, api.OK}, {[]api.Item{a}, []api.Item{b, bb, c}, api.OK},
		{nil, nil, api.OK}, {nil, []api.Item{a, b}, api.OK}, {[]api.Item{a, b}, nil, api.OK},
		{[]api.Item{a, b}, []api.Item{b, c}, api.ErrState}, {[]api.Item{a, b}, []api.Item{item("b", "other"), c}, api.ErrState}, {[]api.Item{a}, []api.Item{a}, api.ErrState},
		{[]api.Item{b}, []api.Item{a}, api.ErrState}, {[]api.Item{bb}, []api.Item{b}, api.ErrState}, {[]api.Item{bb, c}, []api.Item{a, b}, api.ErrState}, {[]api.Item{a, c}, []api.Item{b}, api.ErrState}, {[]api.Item{b}, []api.Item{a, c}, api.ErrState}, {[]api.Item{a, bb}, []api.Item{b, c}, api.ErrState},
	} {
		l, o := of(t, x.left...), of(t, x.right...)
		got, e := l.Join(o)
		if x.e != api.OK {
			wantNoLeaf(t, got, e, x.e)
			continue
		}
		wantItems(t, got, slices.Concat(x.left, x.right))
		wantItems(t, l, x.left)
		wantItems(t, o, x.right)
	}
	l := of(t, a)
	got, e := l.Join(l)
	wantNoLeaf(t, got, e, api.ErrState)
}

// P9.3: any two leaves are joined just if all keys of the one stand ahead; cut at any key they are joined again.
func TestJoinAny(t *testing.T) {
	rnd := rand.New(rand.NewSource(7))
	for range 3000 {
		x, y := anyItems(rnd, 3), anyItems(rnd, 3)
		got, e := of(t, x...).Join(of(t, y...))
		if len(x) == 0 || len(y) == 0 || x[len(x)-1].Key < y[0].Key {
			wantItems(t, got, slices.Concat(x, y))
		} else {
			wantNoLeaf(t, got, e, api.ErrState)
		}
		l, k := of(t, anyItems(rnd, 30)...), anyKey(rnd)
		got, e = l.Within(key.Range{Hi: k}).Join(l.Within(key.Range{Lo: k}))
		if e != api.OK || !leaf.Same(got, l) {
			t.Fatalf("cut at %q the leaf isn't the same: %d", k, e)
		}
	}
}

// P9.3: leaves with the same items, with unlike values, with unlike keys, and nil.
func TestSame(t *testing.T) {
	a, b, c := item("a", "1"), item("b", "2"), item("c", "3")
	list := [][]api.Item{nil, {a}, {item("a", "2")}, {item("a", "")}, {item("A", "1")}, {item("aa", "1")}, {b}, {a, b}, {a, item("b", "1")}, {a, c}, {a, item("c", "2")}, {item("a", "2"), item("b", "1")}, {a, b, c}, {b, c}, {item("a", "1b"), item("c", "")}, {item("a1", ""), item("b", "2")}}
	for i, x := range list {
		for j, y := range list {
			if got := leaf.Same(of(t, x...), of(t, y...)); got != (i == j) {
				t.Errorf("Same of %q and %q is %v", x, y, got)
			}
		}
		if leaf.Same(of(t, x...), nil) || leaf.Same(nil, of(t, x...)) {
			t.Errorf("%q is the same as nil", x)
		}
	}
	if !leaf.Same(nil, nil) || !leaf.Same(of(t, c, a, b), of(t, b, c, a)) {
		t.Error("the same isn't")
	}
}

// P9.3: leaves that were made in unlike ways are the same, if their items are.
func TestSameHoweverMade(t *testing.T) {
	empty := of(t)
	gone, _ := of(t, item("a", "1")).With(msg.OfDel("a"))
	joined, _ := empty.Join(gone)
	for _, l := range []*leaf.Leaf{gone, joined, of(t, ten()...).Within(key.Range{Lo: "b"}), empty.Parts()[0]} {
		if !leaf.Same(l, empty) || !leaf.Same(empty, l) || l.Len() != 0 || l.Weight() != 0 || l.Low() != "" {
			t.Errorf("%q", l.Items())
		}
	}
	var puts []api.Msg
	for _, x := range ten() {
		puts = append(puts, msg.OfPut(x.Key, x.Val))
	}
	if l, e := empty.With(puts...); e != api.OK || !leaf.Same(l, of(t, ten()...)) {
		t.Error(e)
	}
}

// P9.1 to P9.3, rule 5: of a nil leaf nothing, 0, false and nil leaves; ErrNil ahead of all others; ErrNil of a nil o.
func TestNil(t *testing.T) {
	var none *leaf.Leaf
	if none.Len() != 0 || none.Weight() != 0 || len(none.Items()) != 0 || none.Low() != "" || len(none.Parts()) != 0 {
		t.Error(none.Len(), none.Weight(), none.Items(), none.Low(), none.Parts())
	}
	for _, k := range []string{"", "a", long(9)} {
		wantMissing(t, none, k)
	}
	for _, r := range []key.Range{{}, {Lo: "a"}, {Lo: "b", Hi: "a"}, {Lo: long(300)}} {
		if l := none.Within(r); l != nil {
			t.Errorf("a leaf of %q", l.Items())
		}
	}
	for _, list := range [][]api.Msg{nil, {}, {msg.OfPut("a", "1")}, {{}}, {{Kind: math.MinInt}}} {
		l, e := none.With(list...)
		wantNoLeaf(t, l, e, api.ErrNil)
	}
	for _, o := range []*leaf.Leaf{nil, of(t), of(t, ten()...)} {
		l, e := none.Join(o)
		wantNoLeaf(t, l, e, api.ErrNil)
		l, e = o.Join(nil)
		wantNoLeaf(t, l, e, api.ErrNil)
	}
}

// Rule 3: items and messages that are handed in are neither changed nor kept, their spare room neither.
func TestHandedIn(t *testing.T) {
	items := append(make([]api.Item, 0, 4), item("c", "3"), item("a", "1"))
	l := of(t, items...)
	if !slices.Equal(items[:4], []api.Item{item("c", "3"), item("a", "1"), {}, {}}) {
		t.Errorf("the items are %q", items[:4])
	}
	items[0], items[1] = item("z", "9"), item("y", "8")
	wantItems(t, l, []api.Item{item("a", "1"), item("c", "3")})

	list := append(make([]api.Msg, 0, 4), msg.OfPut("d", "4"), msg.OfDel("c"), msg.OfPut("b", "2"))
	m, _ := l.With(list...)
	if !slices.Equal(list[:4], []api.Msg{msg.OfPut("d", "4"), msg.OfDel("c"), msg.OfPut("b", "2"), {}}) {
		t.Errorf("the messages are %#v", list[:4])
	}
	list[0], list[2] = msg.OfPut("x", "7"), msg.OfDel("b")
	wantItems(t, m, []api.Item{item("a", "1"), item("b", "2"), item("d", "4")})
}

// spoil changes all that Items gives, its spare room too.
func spoil(l *leaf.Leaf) {
	items := l.Items()
	items = append(items, item("spoilt", "one"))
	items = items[:cap(items)]
	for i := range items {
		items[i] = item("spoilt", "two")
	}
}

// P9.1 to P9.3: a leaf stays as it was, whatever is made of it, of its parts, and of what Items gave.
func TestNeverChanged(t *testing.T) {
	rnd := rand.New(rand.NewSource(8))
	for range 300 {
		items := anyItems(rnd, 60)
		l := of(t, items...)
		row := []*leaf.Leaf{l}
		want := [][]api.Item{items}
		keep := func(o *leaf.Leaf) {
			if o != nil {
				row, want = append(row, o), append(want, o.Items())
			}
		}
		for range 20 {
			o := row[rnd.Intn(len(row))]
			with, _ := o.With(anyMsg(rnd), anyMsg(rnd), anyMsg(rnd))
			keep(with)
			keep(o.Within(key.Range{Lo: anyKey(rnd)}))
			keep(o.Within(key.Range{Hi: anyKey(rnd)}))
			parts := o.Parts()
			for _, p := range parts {
				keep(p)
			}
			joined, _ := parts[0].Join(of(t, item(strings.Repeat("\xff", 8), "last")))
			keep(joined)
			clear(parts)
			spoil(o)
		}
		for i, o := range row {
			wantItems(t, o, want[i])
		}
	}
}

// Rule 3: what Parts gives is new memory with each call.
func TestPartsMemory(t *testing.T) {
	for _, items := range [][]api.Item{nil, ten()[:3], ten()} {
		l := of(t, items...)
		first, second := l.Parts(), l.Parts()
		clear(second)
		_ = append(second[:0], nil)
		for _, p := range first {
			if p == nil {
				t.Error("a part is gone")
			}
		}
		wantParts(t, l)
	}
}

// Great leaves, and long lists of messages, are worked on to their end.
func TestMany(t *testing.T) {
	const many = 200000
	items := make([]api.Item, many)
	list := make([]api.Msg, many)
	for i := range many {
		items[i] = item(number(uint64(many-i)*2), number(uint64(i)))
		list[i] = msg.OfPut(number(uint64(i)*2+1), "")
	}
	l := of(t, items...)
	with, e := l.With(list...)
	if e != api.OK || with.Len() != 2*many || with.Weight() != many*28 || l.Len() != many {
		t.Fatal(e, with.Len(), with.Weight(), l.Len())
	}
	n := 0
	for _, p := range with.Parts() {
		if p.Weight() > api.LeafMax || p.Len() == 0 {
			t.Fatal(p.Weight(), p.Len())
		}
		n += p.Len()
	}
	if n != 2*many {
		t.Error(n)
	}
	adds := make([]api.Msg, many)
	for i := range adds {
		adds[i] = msg.OfAdd("n", 2)
	}
	wantWith(t, of(t), adds, item("n", number(2*many)))
}

// FuzzAnyItems holds all calls against the words of the chapter, at any items, message and range.
func FuzzAnyItems(f *testing.F) {
	f.Add("a", "1", "b", number(7), 3, "b", number(5), "a", "b")
	f.Add("abcdefgh", long(16), "abcdefghi", long(17), 1, "", "x", "z", "a")
	f.Add("k", "", "k", "", 2, "k", "", "", "")
	f.Fuzz(func(t *testing.T, keyA, valA, keyB, valB string, kind int, keyM, valM, lo, hi string) {
		a, b, m := item(keyA, valA), item(keyB, valB), api.Msg{Kind: kind, Key: keyM, Val: valM}
		l, e := leaf.Of(a, b)
		can := func(x api.Item) bool { return len(x.Key) >= 1 && len(x.Key) <= 8 && len(x.Val) <= 16 }
		switch {
		case !can(a) || !can(b):
			wantNoLeaf(t, l, e, api.ErrArg)
			l = of(t)
		case keyA == keyB:
			wantNoLeaf(t, l, e, api.ErrState)
			l = of(t, a)
		}
		items := l.Items()
		wantItems(t, l, items)
		wantParts(t, l)
		with, e := l.With(m, m)
		if msg.Is(m) {
			wantItems(t, with, withByWords(items, []api.Msg{m, m}))
		} else {
			wantNoLeaf(t, with, e, api.ErrArg)
		}
		var want []api.Item
		for _, x := range items {
			if x.Key >= lo && (hi == "" || x.Key < hi) {
				want = append(want, x)
			}
		}
		wantItems(t, l.Within(key.Range{Lo: lo, Hi: hi}), want)
	})
}
