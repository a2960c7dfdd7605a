package buff_test

import (
	"encoding/binary"
	"math"
	"math/rand"
	"slices"
	"strings"
	"testing"

	"granger/api"
	"granger/buff"
	"granger/key"
	"granger/msg"
)

// long is a text of so many bytes.
func long(n int) string {
	return strings.Repeat("x", n)
}

// number is a number's value, the highest byte first.
func number(n uint64) string {
	return string(binary.BigEndian.AppendUint64(nil, n))
}

// of is a buffer into which these are put, all of which can be.
func of(t *testing.T, list ...api.Msg) *buff.Buff {
	t.Helper()
	b, e := buff.Of(list...)
	if e != api.OK || b == nil {
		t.Fatalf("Of(%#v): %d", list, e)
	}
	return b
}

// with is a buffer into which these are put as well, all of which can be.
func with(t *testing.T, b *buff.Buff, list ...api.Msg) *buff.Buff {
	t.Helper()
	o, e := b.With(list...)
	if e != api.OK || o == nil {
		t.Fatalf("With(%#v): %d", list, e)
	}
	return o
}

// few are messages of all kinds, rising, one a key, of the weights 5, 12, 4 and 8.
func few() []api.Msg {
	return []api.Msg{msg.OfPut("b", "x"), msg.OfAdd("k", 7), msg.OfDel("m"), msg.OfPut("xy", "abc")}
}

// wrong are messages that can't be.
func wrong() []api.Msg {
	return []api.Msg{
		{}, {Kind: 0, Key: "b"}, {Kind: 4, Key: "b"}, {Kind: -1, Key: "b"}, {Kind: 257, Key: "b"}, {Kind: math.MinInt, Key: "b"}, {Kind: math.MaxInt, Key: "b"},
		msg.OfPut("", "v"), msg.OfPut("abcdefghi", "v"), msg.OfPut(long(264), "v"), msg.OfPut("b", long(17)), msg.OfPut("b", long(272)),
		msg.OfDel(""), msg.OfDel("abcdefghi"), {Kind: msg.Del, Key: "b", Val: "x"}, {Kind: msg.Del, Key: "b", Val: number(0)},
		msg.OfAdd("", 1), msg.OfAdd("abcdefghi", 1), {Kind: msg.Add, Key: "b"}, {Kind: msg.Add, Key: "b", Val: long(7)}, {Kind: msg.Add, Key: "b", Val: long(9)},
	}
}

// anyKey is a key of 1 to 8 bytes, more often a short one, of few letters, so that keys meet often.
func anyKey(rnd *rand.Rand) string {
	b := make([]byte, 1+rnd.Intn(1+rnd.Intn(8)))
	for i := range b {
		b[i] = "\x00ab\xff"[rnd.Intn(4)]
	}
	return string(b)
}

// anyVal is a value of 0 to 16 bytes, or a number's.
func anyVal(rnd *rand.Rand) string {
	if rnd.Intn(3) == 0 {
		return number(rnd.Uint64())
	}
	return strings.Repeat("v", rnd.Intn(17))
}

// anyMsg is a message that can be.
func anyMsg(rnd *rand.Rand) api.Msg {
	switch rnd.Intn(3) {
	case 0:
		return msg.OfPut(anyKey(rnd), anyVal(rnd))
	case 1:
		return msg.OfDel(anyKey(rnd))
	}
	return msg.OfAdd(anyKey(rnd), rnd.Uint64())
}

// anyList is up to so many messages that can be.
func anyList(rnd *rand.Rand, most int) []api.Msg {
	list := make([]api.Msg, rnd.Intn(most+1))
	for i := range list {
		list[i] = anyMsg(rnd)
	}
	return list
}

// anyRange is a range whose ends are keys, or none; it may be turned.
func anyRange(rnd *rand.Rand) key.Range {
	r := key.Range{Lo: anyKey(rnd), Hi: anyKey(rnd)}
	if rnd.Intn(4) == 0 {
		r.Lo = ""
	}
	if rnd.Intn(4) == 0 {
		r.Hi = ""
	}
	return r
}

// mixed are the same messages in another order.
func mixed(rnd *rand.Rand, list []api.Msg) []api.Msg {
	o := slices.Clone(list)
	rnd.Shuffle(len(o), func(i, j int) { o[i], o[j] = o[j], o[i] })
	return o
}

// sum is the value of both numbers' sum, where both values are numbers'.
func sum(a, b string) string {
	return number(binary.BigEndian.Uint64([]byte(a)) + binary.BigEndian.Uint64([]byte(b)))
}

// thenByWords is what two messages to one key are together, as layer 8's words tell it.
func thenByWords(a, b api.Msg) api.Msg {
	switch {
	case b.Kind != 3:
		return b
	case a.Kind == 2:
		return api.Msg{Kind: 1, Key: a.Key, Val: b.Val}
	case len(a.Val) == 8:
		return api.Msg{Kind: a.Kind, Key: a.Key, Val: sum(a.Val, b.Val)}
	}
	return a
}

// putByWords is what a buffer has, into which these are put in order, one by one, in a map.
func putByWords(list []api.Msg) []api.Msg {
	byKey := map[string]api.Msg{}
	for _, m := range list {
		if old, has := byKey[m.Key]; has {
			m = thenByWords(old, m)
		}
		byKey[m.Key] = m
	}
	var row []api.Msg
	for _, m := range byKey {
		row = append(row, m)
	}
	slices.SortFunc(row, func(a, b api.Msg) int { return strings.Compare(a.Key, b.Key) })
	return row
}

// doByWords is what a key has behind messages to it, that had val, or nothing.
func doByWords(list []api.Msg, val string, has bool) (string, bool) {
	for _, m := range list {
		switch {
		case m.Kind == 2:
			val, has = "", false
		case m.Kind == 1 || !has:
			val, has = m.Val, true
		case len(val) == 8:
			val = sum(val, m.Val)
		}
	}
	return val, has
}

// isIn tells whether a key stands in a range.
func isIn(k string, r key.Range) bool {
	return k >= r.Lo && (r.Hi == "" || k < r.Hi)
}

// cut are the messages in a range, and the others.
func cut(list []api.Msg, r key.Range) (in, out []api.Msg) {
	for _, m := range list {
		if isIn(m.Key, r) {
			in = append(in, m)
		} else {
			out = append(out, m)
		}
	}
	return in, out
}

// weightByWords is the weight of messages.
func weightByWords(list []api.Msg) int {
	n := 0
	for _, m := range list {
		n += 3 + len(m.Key) + len(m.Val)
	}
	return n
}

// loadsByWords are the weights of the parts that pivots that rise make.
func loadsByWords(list []api.Msg, pivots []string) []int {
	loads := make([]int, len(pivots)+1)
	for _, m := range list {
		at := 0
		for at < len(pivots) && pivots[at] <= m.Key {
			at++
		}
		loads[at] += 3 + len(m.Key) + len(m.Val)
	}
	return loads
}

// heaviestByWords is the place of the greatest load, the first one, or -1.
func heaviestByWords(loads []int) int {
	at, most := -1, 0
	for i, n := range loads {
		if n > most {
			at, most = i, n
		}
	}
	return at
}

// wantList looks whether a buffer has just these messages, which rise, by all calls that tell of them.
func wantList(t *testing.T, b *buff.Buff, want []api.Msg) {
	t.Helper()
	if b == nil {
		t.Fatalf("no buffer, want one of %#v", want)
	}
	if got := b.List(); !slices.Equal(got, want) {
		t.Fatalf("the messages are %#v, want %#v", got, want)
	}
	if b.Len() != len(want) || b.Weight() != weightByWords(want) {
		t.Fatalf("%d messages of weight %d, want %d of %d", b.Len(), b.Weight(), len(want), weightByWords(want))
	}
	for _, m := range want {
		if got, has := b.Find(m.Key); got != m || !has {
			t.Fatalf("Find(%#v) is %#v, %v, want %#v", m.Key, got, has, m)
		}
	}
}

func wantMissing(t *testing.T, b *buff.Buff, k string) {
	t.Helper()
	if got, has := b.Find(k); got != (api.Msg{}) || has {
		t.Fatalf("Find(%#v) is %#v, %v, want none", k, got, has)
	}
}

func wantNoBuff(t *testing.T, b *buff.Buff, e, want api.Errno) {
	t.Helper()
	if b != nil || e != want {
		t.Fatalf("a buffer of %#v, and %d, want %d", b.List(), e, want)
	}
}

// wantCut looks what a range takes of a buffer, and what is left.
func wantCut(t *testing.T, b *buff.Buff, r key.Range) {
	t.Helper()
	in, out := cut(b.List(), r)
	if got := b.Take(r); !slices.Equal(got, in) {
		t.Fatalf("Take(%#v) is %#v, want %#v", r, got, in)
	}
	wantList(t, b.Without(r), out)
}

// wantLoads looks at the loads, and at the heaviest part.
func wantLoads(t *testing.T, b *buff.Buff, pivots []string, want ...int) {
	t.Helper()
	if got := b.Loads(pivots...); !slices.Equal(got, want) {
		t.Fatalf("Loads(%#v) is %d, want %d", pivots, got, want)
	}
	if got := b.Heaviest(pivots...); got != heaviestByWords(want) {
		t.Fatalf("Heaviest(%#v) is %d, want %d, of loads %d", pivots, got, heaviestByWords(want), want)
	}
}

// P10.1: messages told in rising order, turned round and mixed are one buffer.
func TestOf(t *testing.T) {
	turned := few()
	slices.Reverse(turned)
	for _, list := range [][]api.Msg{few(), turned, mixed(rand.New(rand.NewSource(1)), few())} {
		b := of(t, list...)
		wantList(t, b, few())
		if b.Len() != 4 || b.Weight() != 29 {
			t.Errorf("%d messages of weight %d", b.Len(), b.Weight())
		}
	}
}

// P10.1: no message, and one of each kind.
func TestOfFew(t *testing.T) {
	wantList(t, of(t), nil)
	wantList(t, of(t, []api.Msg{}...), nil)
	for _, c := range []struct {
		m      api.Msg
		weight int
	}{{msg.OfPut("k", ""), 4}, {msg.OfPut("abcdefgh", long(16)), 27}, {msg.OfDel("k"), 4}, {msg.OfDel("abcdefgh"), 11}, {msg.OfAdd("k", 0), 12}, {msg.OfAdd("abcdefgh", math.MaxUint64), 19}} {
		b := of(t, c.m)
		wantList(t, b, []api.Msg{c.m})
		if b.Len() != 1 || b.Weight() != c.weight {
			t.Errorf("%#v: %d messages of weight %d", c.m, b.Len(), b.Weight())
		}
	}
}

// P10.1, P10.2: keys and values at the edges that the document names, alone and among others, of Of and of With.
func TestEdges(t *testing.T) {
	for _, c := range []struct {
		m  api.Msg
		ok bool
	}{
		{msg.OfPut("", ""), false}, {msg.OfPut("", "v"), false}, {msg.OfPut("k", ""), true}, {msg.OfPut("k", "v"), true}, {msg.OfPut("\x00", "\x00"), true}, {msg.OfPut("\xff", "\xff"), true},
		{msg.OfPut("abcdefg", "v"), true}, {msg.OfPut("abcdefgh", "v"), true}, {msg.OfPut("abcdefghi", "v"), false}, {msg.OfPut("ééééé", "v"), false}, {msg.OfPut(long(256), "v"), false},
		{msg.OfPut("k", long(15)), true}, {msg.OfPut("k", long(16)), true}, {msg.OfPut("k", long(17)), false}, {msg.OfPut("k", long(256)), false}, {msg.OfPut("abcdefgh", long(16)), true}, {msg.OfPut("abcdefghi", long(17)), false},
		{msg.OfDel(""), false}, {msg.OfDel("k"), true}, {msg.OfDel("abcdefgh"), true}, {msg.OfDel("abcdefghi"), false}, {msg.OfAdd("", 1), false}, {msg.OfAdd("k", 1), true}, {msg.OfAdd("abcdefgh", 1), true}, {msg.OfAdd("abcdefghi", 1), false},
	} {
		for _, list := range [][]api.Msg{{c.m}, {c.m, msg.OfDel("m")}, {msg.OfDel("m"), c.m}, {msg.OfDel("z"), c.m, msg.OfPut("A", "2")}} {
			b, e := buff.Of(list...)
			o, eo := of(t, msg.OfPut("m", "1")).With(list...)
			if !c.ok {
				wantNoBuff(t, b, e, api.ErrArg)
				wantNoBuff(t, o, eo, api.ErrArg)
				continue
			}
			wantList(t, b, putByWords(list))
			wantList(t, o, putByWords(slices.Concat([]api.Msg{msg.OfPut("m", "1")}, list)))
		}
	}
}

// P10.1, P10.2: if one message can't be, wherever it stands, there is no buffer, and the one that was there stays.
func TestWrong(t *testing.T) {
	x, y := msg.OfPut("b", "9"), msg.OfDel("d")
	for _, m := range wrong() {
		for _, list := range [][]api.Msg{{m}, {m, x, y}, {x, m, y}, {x, y, m}, {m, m}, {x, x, m, y}} {
			b, e := buff.Of(list...)
			wantNoBuff(t, b, e, api.ErrArg)
			for _, had := range [][]api.Msg{nil, few()} {
				b := of(t, had...)
				o, e := b.With(list...)
				wantNoBuff(t, o, e, api.ErrArg)
				wantList(t, b, had)
			}
		}
	}
}

// P10.1: messages stand in the order of their keys' bytes, a beginning ahead of what is longer.
func TestOrder(t *testing.T) {
	var want []api.Msg
	for _, k := range []string{"\x00", "\x00\x00", "\x00a", "A", "a", "a\x00", "aa", "ab", "abcdefg", "abcdefgh", "b", "é", "\xff", "\xff\x00", "\xff\xff", strings.Repeat("\xff", 8)} {
		want = append(want, msg.OfPut(k, k))
	}
	rnd := rand.New(rand.NewSource(2))
	for range 50 {
		list := mixed(rnd, want)
		wantList(t, of(t, list...), want)
		wantList(t, with(t, of(t, list[:7]...), list[7:]...), want)
	}
}

// P10.1: a key that has a message, keys that have none, and what is no key.
func TestFind(t *testing.T) {
	b := of(t, msg.OfDel("d"), msg.OfPut("b", ""), msg.OfAdd("f", 0), msg.OfPut("bb", "x"))
	for _, m := range []api.Msg{msg.OfPut("b", ""), msg.OfPut("bb", "x"), msg.OfDel("d"), msg.OfAdd("f", 0)} {
		if got, has := b.Find(m.Key); got != m || !has {
			t.Errorf("%#v, %v, want %#v", got, has, m)
		}
	}
	for _, k := range []string{"a", "b\x00", "ba", "bba", "bc", "c", "e", "g", "\x00", "\xff", "abcdefgh", "", "bcdefghij", "d" + strings.Repeat("\x00", 8), long(9), long(300)} {
		wantMissing(t, b, k)
		wantMissing(t, of(t), k)
	}
}

// P10.1, P10.4: two and three messages to one key, of all three kinds, one behind the other, told at once and one by one, among others.
func TestSeveralToOne(t *testing.T) {
	kinds := []api.Msg{msg.OfPut("k", "xyz"), msg.OfPut("k", number(5)), msg.OfPut("k", ""), msg.OfDel("k"), msg.OfAdd("k", 3), msg.OfAdd("k", math.MaxUint64)}
	for _, x := range kinds {
		for _, y := range kinds {
			wantPut(t, x, y)
			for _, z := range kinds {
				wantPut(t, x, y, z)
			}
		}
	}
}

// wantPut looks what messages to the key k are together, in what way ever they are put into a buffer, and what that does.
func wantPut(t *testing.T, list ...api.Msg) {
	t.Helper()
	want := list[0]
	for _, m := range list[1:] {
		want = thenByWords(want, m)
	}
	wantList(t, of(t, list...), []api.Msg{want})
	step := of(t)
	var apart []api.Msg
	for _, m := range list {
		step = with(t, step, m)
		apart = append(apart, msg.OfPut("z", "1"), m, msg.OfDel("a"), msg.OfDel("z"))
	}
	wantList(t, step, []api.Msg{want})
	wantList(t, of(t, apart...), []api.Msg{msg.OfDel("a"), want, msg.OfDel("z")})
	for i := range list {
		wantList(t, with(t, of(t, list[:i]...), list[i:]...), []api.Msg{want})
	}
	wantDone(t, step, "k", list)
}

// wantDone looks whether a buffer does to a key what these messages to it do, one behind the other.
func wantDone(t *testing.T, b *buff.Buff, k string, list []api.Msg) {
	t.Helper()
	m, _ := b.Find(k)
	for _, had := range []struct {
		val string
		has bool
	}{{"", false}, {"", true}, {"xyz", true}, {number(0), true}, {number(9), true}, {number(math.MaxUint64), true}, {long(16), true}} {
		want, wantHas := doByWords(list, had.val, had.has)
		if val, has := msg.Apply(m, had.val, had.has); val != want || has != wantHas {
			t.Fatalf("to %#v, %v the buffer does %#v, %v, the messages %#v do %#v, %v", had.val, had.has, val, has, list, want, wantHas)
		}
	}
}

// P10.1: some messages to one key by their words.
func TestTogether(t *testing.T) {
	put, del, add := msg.OfPut, msg.OfDel("k"), msg.OfAdd
	for _, c := range []struct {
		list []api.Msg
		want api.Msg
	}{
		{[]api.Msg{add("k", 3), add("k", 4)}, add("k", 7)}, {[]api.Msg{add("k", math.MaxUint64), add("k", 1)}, add("k", 0)}, {[]api.Msg{put("k", number(5)), add("k", 7)}, put("k", number(12))}, {[]api.Msg{put("k", "xyz"), add("k", 7)}, put("k", "xyz")}, {[]api.Msg{del, add("k", 7)}, put("k", number(7))},
		{[]api.Msg{put("k", "1"), put("k", "2")}, put("k", "2")}, {[]api.Msg{put("k", "2"), put("k", "1")}, put("k", "1")}, {[]api.Msg{put("k", "1"), del}, del}, {[]api.Msg{del, put("k", "1")}, put("k", "1")}, {[]api.Msg{add("k", 3), del}, del}, {[]api.Msg{add("k", 3), put("k", "1")}, put("k", "1")}, {[]api.Msg{del, del}, del},
		{[]api.Msg{add("k", 3), del, add("k", 4), add("k", 5)}, put("k", number(9))}, {[]api.Msg{put("k", ""), add("k", 3), del, add("k", 9), put("k", "")}, put("k", "")},
	} {
		wantList(t, of(t, c.list...), []api.Msg{c.want})
	}
}

// P10.1, P10.4: rows of any messages, against a map into which they are put one by one; all at once come to the same as one by one.
func TestOfAny(t *testing.T) {
	rnd := rand.New(rand.NewSource(3))
	for range 2000 {
		list := anyList(rnd, 40)
		want := putByWords(list)
		b := of(t, list...)
		wantList(t, b, want)
		step := of(t)
		for _, m := range list {
			step = with(t, step, m)
		}
		wantList(t, step, want)
		for range 10 {
			k := anyKey(rnd)
			to, _ := cut(list, key.Range{Lo: k, Hi: k + "\x00"})
			if len(to) == 0 {
				wantMissing(t, b, k)
				continue
			}
			wantDone(t, b, k, to)
		}
	}
}

// P10.2: no message, and a Put, a Del and an Add to keys that are there and to keys that aren't.
func TestWith(t *testing.T) {
	b, k, m, xy := few()[0], few()[1], few()[2], few()[3]
	put, del, add := msg.OfPut, msg.OfDel, msg.OfAdd
	old := of(t, few()...)
	for _, c := range []struct{ list, want []api.Msg }{
		{nil, few()}, {[]api.Msg{}, few()},
		{[]api.Msg{put("b", "y")}, []api.Msg{put("b", "y"), k, m, xy}}, {[]api.Msg{put("m", "y")}, []api.Msg{b, k, put("m", "y"), xy}}, {[]api.Msg{put("xy", "")}, []api.Msg{b, k, m, put("xy", "")}},
		{[]api.Msg{put("a", "1")}, []api.Msg{put("a", "1"), b, k, m, xy}}, {[]api.Msg{put("c", "")}, []api.Msg{b, put("c", ""), k, m, xy}}, {[]api.Msg{put("z", "7")}, []api.Msg{b, k, m, xy, put("z", "7")}},
		{[]api.Msg{del("b")}, []api.Msg{del("b"), k, m, xy}}, {[]api.Msg{del("k")}, []api.Msg{b, del("k"), m, xy}}, {[]api.Msg{del("m")}, few()}, {[]api.Msg{del("c")}, []api.Msg{b, del("c"), k, m, xy}},
		{[]api.Msg{add("b", 7)}, few()}, {[]api.Msg{add("k", 7)}, []api.Msg{b, add("k", 14), m, xy}}, {[]api.Msg{add("m", 7)}, []api.Msg{b, k, put("m", number(7)), xy}}, {[]api.Msg{add("l", 7)}, []api.Msg{b, k, add("l", 7), m, xy}},
		{[]api.Msg{del("z"), add("k", 1), del("b"), add("m", 2), put("a", "1"), add("b", 3), add("z", 4)}, []api.Msg{put("a", "1"), put("b", number(3)), add("k", 8), put("m", number(2)), xy, put("z", number(4))}},
	} {
		wantList(t, with(t, old, c.list...), c.want)
	}
	wantList(t, old, few())
	wantList(t, with(t, of(t)), nil)
	wantList(t, with(t, of(t), few()...), few())
}

// P10.2, P10.4: any messages put into any buffer come to what all of them do, put into an empty one.
func TestWithAny(t *testing.T) {
	rnd := rand.New(rand.NewSource(4))
	for range 2000 {
		x, y := anyList(rnd, 20), anyList(rnd, 20)
		b := of(t, x...)
		wantList(t, with(t, b, y...), putByWords(slices.Concat(x, y)))
		wantList(t, b, putByWords(x))
	}
}

// P10.2: ranges that have all, some and none of the keys, without an end, turned, and such that can't be.
func TestTake(t *testing.T) {
	put, bb, del, f := msg.OfPut("b", "2"), msg.OfPut("bb", ""), msg.OfDel("d"), msg.OfAdd("f", 6)
	b := of(t, f, del, bb, put)
	for _, c := range []struct {
		lo, hi string
		want   []api.Msg
	}{
		{"", "", []api.Msg{put, bb, del, f}}, {"a", "z", []api.Msg{put, bb, del, f}}, {"b", "g", []api.Msg{put, bb, del, f}}, {"b", "f\x00", []api.Msg{put, bb, del, f}},
		{"b", "f", []api.Msg{put, bb, del}}, {"", "f", []api.Msg{put, bb, del}}, {"b\x00", "d", []api.Msg{bb}}, {"bb", "bb\x00", []api.Msg{bb}}, {"c", "e", []api.Msg{del}}, {"d", "d\x00", []api.Msg{del}}, {"", "b", nil}, {"", "b\x00", []api.Msg{put}},
		{"b", "", []api.Msg{put, bb, del, f}}, {"bb", "", []api.Msg{bb, del, f}}, {"c", "", []api.Msg{del, f}}, {"f", "", []api.Msg{f}}, {"f\x00", "", nil}, {"\xff", "", nil},
		{"b", "b", nil}, {"c", "d", nil}, {"g", "z", nil}, {"", "a", nil}, {"f", "b", nil}, {"z", "a", nil}, {"d\x00", "d", nil}, {"c", "b", nil}, {"g", "b", nil},
		{"bbbbbbbbb", "", []api.Msg{del, f}}, {"b", "dddddddddd", []api.Msg{put, bb, del}}, {"b\x00\x00\x00\x00\x00\x00\x00\x00", "d", []api.Msg{bb}}, {long(300), "", nil}, {"", long(300), []api.Msg{put, bb, del, f}},
	} {
		r := key.Range{Lo: c.lo, Hi: c.hi}
		if got := b.Take(r); !slices.Equal(got, c.want) {
			t.Errorf("Take(%#v) is %#v, want %#v", r, got, c.want)
		}
		wantCut(t, b, r)
		wantCut(t, of(t), r)
	}
	wantList(t, b.Without(key.Range{}), nil)
	wantList(t, b.Without(key.Range{Lo: "f", Hi: "b"}), []api.Msg{put, bb, del, f})
	wantList(t, b.Without(key.Range{Lo: "bb", Hi: "f"}), []api.Msg{put, f})
	wantList(t, b, []api.Msg{put, bb, del, f})
}

// P10.2: any ranges of any buffers: what is taken, put into the others, is the buffer.
func TestTakeAny(t *testing.T) {
	rnd := rand.New(rand.NewSource(5))
	for range 3000 {
		list := anyList(rnd, 30)
		b, r := of(t, list...), anyRange(rnd)
		wantCut(t, b, r)
		if !buff.Same(with(t, b.Without(r), b.Take(r)...), b) {
			t.Fatalf("Take(%#v) and Without aren't all of %#v", r, b.List())
		}
	}
}

// P10.3: the chapter's example.
func TestLoadsOfTwo(t *testing.T) {
	b := of(t, msg.OfPut("a", "1"), msg.OfPut("x", "2"))
	wantLoads(t, b, []string{"m"}, 5, 5)
	if b.Heaviest("m") != 0 {
		t.Error(b.Heaviest("m"))
	}
	b = of(t, msg.OfPut("x", "22"), msg.OfPut("a", "1"))
	wantLoads(t, b, []string{"m"}, 5, 6)
	if b.Heaviest("m") != 1 {
		t.Error(b.Heaviest("m"))
	}
}

// P10.3: no pivot, one, and several, at keys and between them; parts that weigh the same, and parts without a message.
func TestLoads(t *testing.T) {
	b := of(t, few()...)
	for _, c := range []struct {
		pivots   []string
		heaviest int
		want     []int
	}{
		{nil, 0, []int{29}}, {[]string{}, 0, []int{29}}, {[]string{"a"}, 1, []int{0, 29}}, {[]string{"b"}, 1, []int{0, 29}}, {[]string{"b\x00"}, 1, []int{5, 24}}, {[]string{"k"}, 1, []int{5, 24}}, {[]string{"l"}, 0, []int{17, 12}}, {[]string{"m"}, 0, []int{17, 12}}, {[]string{"xy"}, 0, []int{21, 8}}, {[]string{"y"}, 0, []int{29, 0}},
		{[]string{"k", "m"}, 1, []int{5, 12, 12}}, {[]string{"k", "l", "m"}, 1, []int{5, 12, 0, 12}}, {[]string{"a", "b", "c", "m"}, 3, []int{0, 0, 5, 12, 12}}, {[]string{"k", "m", "xy"}, 1, []int{5, 12, 4, 8}}, {[]string{"c", "e", "x"}, 2, []int{5, 0, 16, 8}}, {[]string{"a", "aa", "ab"}, 3, []int{0, 0, 0, 29}}, {[]string{"y", "yy", "z"}, 0, []int{29, 0, 0, 0}},
	} {
		wantLoads(t, b, c.pivots, c.want...)
		if got := b.Heaviest(c.pivots...); got != c.heaviest {
			t.Errorf("Heaviest(%#v) is %d, want %d", c.pivots, got, c.heaviest)
		}
		wantLoads(t, of(t), c.pivots, make([]int, len(c.pivots)+1)...)
	}
}

// P10.3: of several parts of one weight the first is the heaviest, wherever they stand.
func TestHeaviestOfSeveral(t *testing.T) {
	pivots := []string{"b", "c", "d", "e", "f"}
	keys := []string{"a", "b", "c", "d", "e", "f"}
	sizes := []int{0, 1, 2}
	for row := range 3 * 3 * 3 * 3 * 3 * 3 {
		b, at, want := of(t), row, make([]int, 6)
		for i, k := range keys {
			if n := sizes[at%3]; n > 0 {
				b, want[i] = with(t, b, msg.OfPut(k, long(n))), 4+n
			}
			at /= 3
		}
		wantLoads(t, b, pivots, want...)
	}
}

// P10.3: -1, if no part has a message, whatever the pivots.
func TestHeaviestOfNone(t *testing.T) {
	for _, b := range []*buff.Buff{nil, of(t), of(t, few()...).Without(key.Range{})} {
		for _, pivots := range [][]string{nil, {"a"}, {"a", "b", "c"}, {"c", "a"}, {""}, {long(300)}} {
			if got := b.Heaviest(pivots...); got != -1 {
				t.Errorf("Heaviest(%#v) is %d", pivots, got)
			}
		}
	}
}

// P10.3: pivots that don't rise, empty ones and such that are no keys: the parts are those of layer 7's Cut.
func TestLoadsOfWrongPivots(t *testing.T) {
	b := of(t, few()...)
	wantLoads(t, b, []string{"m", "c"}, 17, 0, 24)
	wantLoads(t, b, []string{"z", "a"}, 29, 0, 29)
	wantLoads(t, b, []string{"k", "k"}, 5, 0, 24)
	wantLoads(t, b, []string{""}, 29, 29)
	wantLoads(t, b, []string{"k", "", "m"}, 5, 24, 17, 12)
	wantLoads(t, b, []string{"k\x00\x00\x00\x00\x00\x00\x00\x00"}, 17, 12)
	wantLoads(t, b, []string{long(300)}, 21, 8)
	rnd := rand.New(rand.NewSource(6))
	for range 1000 {
		list := anyList(rnd, 20)
		b := of(t, list...)
		pivots := []string{anyKey(rnd), anyRange(rnd).Hi, anyKey(rnd) + anyKey(rnd)}
		var want []int
		for _, r := range (key.Range{}).Cut(pivots...) {
			in, _ := cut(b.List(), r)
			want = append(want, weightByWords(in))
		}
		wantLoads(t, b, pivots, want...)
	}
}

// P10.3: any buffers, and any pivots that rise: each message weighs in just one part.
func TestLoadsAny(t *testing.T) {
	rnd := rand.New(rand.NewSource(7))
	for range 3000 {
		b := of(t, anyList(rnd, 40)...)
		pivots := make([]string, rnd.Intn(8))
		for i := range pivots {
			pivots[i] = anyKey(rnd)
		}
		slices.Sort(pivots)
		pivots = slices.Compact(pivots)
		wantLoads(t, b, pivots, loadsByWords(b.List(), pivots)...)
	}
}

// P10.4: buffers with the same messages, with unlike values, kinds and keys, and nil.
func TestSame(t *testing.T) {
	put, del, add := msg.OfPut, msg.OfDel, msg.OfAdd
	list := [][]api.Msg{nil, {put("a", "1")}, {put("a", "2")}, {put("a", "")}, {put("A", "1")}, {put("aa", "1")}, {del("a")}, {del("b")}, {add("a", 1)}, {add("a", 2)}, {put("a", number(1))}, {put("b", "2")}, {put("a", "1"), put("b", "2")}, {put("a", "1"), del("b")}, {put("a", "1"), put("c", "2")}, {put("a", "2"), put("b", "1")}, {put("a", "1"), put("b", "2"), put("c", "3")}, {put("b", "2"), put("c", "3")}, {put("a", "1b"), put("c", "")}, {put("a1", ""), put("b", "2")}}
	for i, x := range list {
		for j, y := range list {
			if got := buff.Same(of(t, x...), of(t, y...)); got != (i == j) {
				t.Errorf("Same of %#v and %#v is %v", x, y, got)
			}
		}
		if buff.Same(of(t, x...), nil) || buff.Same(nil, of(t, x...)) {
			t.Errorf("%#v is the same as nil", x)
		}
	}
	if !buff.Same(nil, nil) {
		t.Error("nil isn't the same as nil")
	}
}

// P10.4: buffers that were made in unlike ways are the same, if their messages are.
func TestSameHoweverMade(t *testing.T) {
	turned := few()
	slices.Reverse(turned)
	b := of(t, few()...)
	add := of(t, msg.OfPut("b", "old"), msg.OfAdd("k", 3), msg.OfPut("m", number(1)))
	gone := of(t, append(few(), msg.OfDel("a"), msg.OfPut("z", "1"))...).Without(key.Range{Lo: "z"}).Without(key.Range{Hi: "b"})
	for i, o := range []*buff.Buff{
		of(t, turned...), with(t, of(t), few()...), with(t, with(t, b), few()[0]), with(t, of(t, few()[2:]...), few()[:2]...), with(t, b.Without(key.Range{Lo: "k"}), b.Take(key.Range{Lo: "k"})...), b.Without(key.Range{Lo: "z"}), gone,
		with(t, add, msg.OfPut("b", "x"), msg.OfAdd("k", 4), msg.OfDel("m"), msg.OfPut("xy", "abc")),
	} {
		if !buff.Same(o, b) || !buff.Same(b, o) {
			t.Errorf("%d: %#v isn't the same", i, o.List())
		}
	}
	for _, o := range []*buff.Buff{b.Without(key.Range{}), with(t, of(t)), of(t).Without(key.Range{Lo: "a"})} {
		if !buff.Same(o, of(t)) || !buff.Same(of(t), o) || buff.Same(o, b) || buff.Same(o, nil) {
			t.Errorf("%#v isn't the same as none", o.List())
		}
	}
}

// A buffer without a message answers each call.
func TestEmpty(t *testing.T) {
	b := of(t)
	wantList(t, b, nil)
	wantMissing(t, b, "a")
	wantCut(t, b, key.Range{})
	wantLoads(t, b, nil, 0)
	wantLoads(t, b, []string{"a", "b"}, 0, 0, 0)
	wantList(t, with(t, b, few()...), few())
	if o, e := b.With(api.Msg{}); o != nil || e != api.ErrArg {
		t.Error(o, e)
	}
}

// P10.1 to P10.3, rule 5: of a nil buffer nothing, 0, false, -1 and nil buffers; ErrNil ahead of all others.
func TestNil(t *testing.T) {
	var none *buff.Buff
	if none.Len() != 0 || none.Weight() != 0 || len(none.List()) != 0 {
		t.Error(none.Len(), none.Weight(), none.List())
	}
	for _, k := range []string{"", "a", long(9)} {
		wantMissing(t, none, k)
	}
	for _, r := range []key.Range{{}, {Lo: "a"}, {Lo: "b", Hi: "a"}, {Lo: long(300)}} {
		if list := none.Take(r); len(list) != 0 {
			t.Errorf("%#v is taken", list)
		}
		if b := none.Without(r); b != nil {
			t.Errorf("a buffer of %#v", b.List())
		}
	}
	for _, pivots := range [][]string{nil, {}, {"a"}, {"b", "a", ""}} {
		if loads := none.Loads(pivots...); len(loads) != 0 || none.Heaviest(pivots...) != -1 {
			t.Error(loads, none.Heaviest(pivots...))
		}
	}
	for _, list := range append([][]api.Msg{nil, {}, few()}, wrong()) {
		b, e := none.With(list...)
		wantNoBuff(t, b, e, api.ErrNil)
	}
}

// Rule 3: messages and pivots that are handed in are neither changed nor kept, their spare room neither.
func TestHandedIn(t *testing.T) {
	list := append(make([]api.Msg, 0, 6), msg.OfDel("c"), msg.OfPut("a", "1"), msg.OfAdd("b", 2), msg.OfAdd("b", 3))
	was := slices.Clone(list[:6])
	b := of(t, list...)
	o := with(t, of(t, msg.OfPut("d", "")), list...)
	empty := with(t, of(t), list...)
	if !slices.Equal(list[:6], was) {
		t.Errorf("the messages are %#v", list[:6])
	}
	for i := range list[:6] {
		list[:6][i] = msg.OfPut("spoilt", "one")
	}
	want := []api.Msg{msg.OfPut("a", "1"), msg.OfAdd("b", 5), msg.OfDel("c")}
	wantList(t, b, want)
	wantList(t, empty, want)
	wantList(t, o, append(want, msg.OfPut("d", "")))

	pivots := append(make([]string, 0, 4), "c", "b")
	b.Loads(pivots...)
	b.Heaviest(pivots...)
	if !slices.Equal(pivots[:4], []string{"c", "b", "", ""}) {
		t.Errorf("the pivots are %#v", pivots[:4])
	}
}

// spoil changes all of a list, its spare room too.
func spoil(list []api.Msg) {
	list = list[:cap(list)]
	for i := range list {
		list[i] = msg.OfPut("spoilt", "one")
	}
}

// P10.1, P10.2: a buffer stays as it was, whatever is made of it, and of what List and Take gave.
func TestNeverChanged(t *testing.T) {
	rnd := rand.New(rand.NewSource(8))
	for range 300 {
		var row []*buff.Buff
		var want [][]api.Msg
		keep := func(o *buff.Buff) {
			row, want = append(row, o), append(want, slices.Clone(o.List()))
		}
		keep(of(t, anyList(rnd, 40)...))
		for range 20 {
			o := row[rnd.Intn(len(row))]
			keep(with(t, o, anyList(rnd, 3)...))
			keep(o.Without(anyRange(rnd)))
			spoil(o.List())
			spoil(o.Take(anyRange(rnd)))
			spoil(o.Take(key.Range{}))
			spoil(o.Take(key.Range{Lo: anyKey(rnd)}))
			loads := o.Loads(anyKey(rnd))
			clear(loads)
		}
		for i, o := range row {
			wantList(t, o, want[i])
		}
	}
}

// Great buffers, long lists of messages and of pivots are worked on to their end.
func TestMany(t *testing.T) {
	const many = 200000
	list, adds, pivots := make([]api.Msg, many), make([]api.Msg, many), make([]string, many)
	for i := range many {
		list[i] = msg.OfPut(number(uint64(many-i)*2), "")
		adds[i] = msg.OfAdd("n", 2)
		pivots[i] = number(uint64(i) * 2)
	}
	b := of(t, list...)
	if b.Len() != many || b.Weight() != many*11 {
		t.Fatal(b.Len(), b.Weight())
	}
	o := with(t, b, list...)
	if !buff.Same(o, b) {
		t.Error("put twice they aren't the same")
	}
	loads := b.Loads(pivots...)
	if len(loads) != many+1 || loads[0] != 0 || loads[1] != 0 || loads[2] != 11 || loads[many] != 22 || b.Heaviest(pivots...) != many {
		t.Error(len(loads), loads[:3], loads[many], b.Heaviest(pivots...))
	}
	wantList(t, of(t, adds...), []api.Msg{msg.OfAdd("n", 2*many)})
}

// FuzzAny holds all calls against the words of the chapter, at any messages, range and pivots.
func FuzzAny(f *testing.F) {
	f.Add(1, "a", "1", 3, "b", number(7), 3, "b", number(5), "a", "b")
	f.Add(1, "abcdefgh", long(16), 2, "abcdefghi", "", 1, "", "x", "z", "a")
	f.Add(2, "k", "", 3, "k", number(1), 1, "k", "", "", "k")
	f.Fuzz(func(t *testing.T, kindX int, keyX, valX string, kindY int, keyY, valY string, kindZ int, keyZ, valZ, lo, hi string) {
		x, y, z := api.Msg{Kind: kindX, Key: keyX, Val: valX}, api.Msg{Kind: kindY, Key: keyY, Val: valY}, api.Msg{Kind: kindZ, Key: keyZ, Val: valZ}
		b, e := buff.Of(x, y)
		if !msg.Is(x) || !msg.Is(y) {
			wantNoBuff(t, b, e, api.ErrArg)
			b = of(t)
		} else {
			wantList(t, b, putByWords([]api.Msg{x, y}))
		}
		list := b.List()
		o, e := b.With(z, z)
		if msg.Is(z) {
			wantList(t, o, putByWords(append(b.List(), z, z)))
		} else {
			wantNoBuff(t, o, e, api.ErrArg)
		}
		r := key.Range{Lo: lo, Hi: hi}
		wantCut(t, b, r)
		var want []int
		for _, part := range (key.Range{}).Cut(lo, hi) {
			in, _ := cut(list, part)
			want = append(want, weightByWords(in))
		}
		wantLoads(t, b, []string{lo, hi}, want...)
		wantList(t, b, list)
	})
}
