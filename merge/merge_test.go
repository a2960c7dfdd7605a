package merge_test

import (
	"encoding/binary"
	"math"
	"math/rand"
	"slices"
	"strings"
	"testing"

	"granger/api"
	"granger/key"
	"granger/merge"
	"granger/msg"
)

// long is a text of so many bytes.
func long(n int) string {
	return strings.Repeat("x", n)
}

// number is a number's value, the highest byte first.
func number(n uint64) string {
	return string(binary.BigEndian.AppendUint64(nil, n))
}

// rows is runs of messages, the eldest first.
type rows = [][]api.Msg

// of is what goes through these runs, all of which can be.
func of(t *testing.T, runs ...[]api.Msg) *merge.Merger {
	t.Helper()
	m, e := merge.New(runs...)
	if e != api.OK || m == nil {
		t.Fatalf("New(%#v): %d", runs, e)
	}
	return m
}

// three are runs that share some keys and not others.
func three() rows {
	return rows{
		{msg.OfPut("a", "1"), msg.OfDel("c"), msg.OfAdd("e", 5), msg.OfPut("g", "last")},
		{msg.OfPut("b", "2"), msg.OfAdd("c", 7), msg.OfAdd("e", 6)},
		{msg.OfDel("a"), msg.OfAdd("c", 1), msg.OfPut("d", ""), msg.OfAdd("e", 1), msg.OfAdd("g", 9)},
	}
}

// threeAsOne is what those come to.
func threeAsOne() []api.Msg {
	return []api.Msg{msg.OfDel("a"), msg.OfPut("b", "2"), msg.OfPut("c", number(8)), msg.OfPut("d", ""), msg.OfAdd("e", 12), msg.OfPut("g", "last")}
}

// wrong are messages that can't be.
func wrong() []api.Msg {
	return []api.Msg{
		{}, {Kind: 0, Key: "b"}, {Kind: 4, Key: "b"}, {Kind: -1, Key: "b"}, {Kind: 257, Key: "b"}, {Kind: math.MinInt, Key: "b"}, {Kind: math.MaxInt, Key: "b"},
		msg.OfPut("", "v"), msg.OfPut("abcdefghi", "v"), msg.OfPut(long(264), "v"), msg.OfPut("b", long(17)), msg.OfPut("b", long(272)),
		msg.OfDel(""), msg.OfDel("abcdefghi"), {Kind: msg.Del, Key: "b", Val: "x"}, {Kind: msg.Del, Key: "b", Val: number(0)},
		msg.OfAdd("", 1), msg.OfAdd("abcdefghi", 1), {Kind: msg.Add, Key: "b"}, {Kind: msg.Add, Key: "b", Val: long(7)}, {Kind: msg.Add, Key: "b", Val: long(9)},
	}
}

// wrongItems are items that can't be.
func wrongItems() []api.Item {
	return []api.Item{{}, {Val: "v"}, {Key: "abcdefghi"}, {Key: long(264), Val: "v"}, {Key: "b", Val: long(17)}, {Key: "b", Val: long(272)}, {Key: long(9), Val: long(17)}}
}

// turned are runs whose keys don't rise: of one key twice, and of keys that fall.
func turned() rows {
	return rows{
		{msg.OfDel("b"), msg.OfDel("a")}, {msg.OfDel("a"), msg.OfDel("a")}, {msg.OfAdd("a", 1), msg.OfAdd("a", 2)}, {msg.OfDel("ab"), msg.OfDel("a")}, {msg.OfDel("a\x00"), msg.OfDel("a")}, {msg.OfDel("\xff"), msg.OfDel("a")},
		{msg.OfDel("a"), msg.OfDel("b"), msg.OfPut("b", "x")}, {msg.OfDel("a"), msg.OfDel("c"), msg.OfPut("b", "x")}, {msg.OfDel("b"), msg.OfDel("a"), msg.OfPut("c", "x")}, {msg.OfDel("a"), msg.OfDel("b"), msg.OfDel("a")},
	}
}

// anyKey is a key of 1 to 8 bytes, more often a short one, of few letters, so that keys meet often.
func anyKey(rnd *rand.Rand) string {
	b := make([]byte, 1+rnd.Intn(1+rnd.Intn(8)))
	for i := range b {
		b[i] = "\x00ab\xff"[rnd.Intn(4)]
	}
	return string(b)
}

// anyVal is a value of 0 to 16 bytes, or a number's.
func anyVal(rnd *rand.Rand) string {
	if rnd.Intn(3) == 0 {
		return number(rnd.Uint64())
	}
	return strings.Repeat("v", rnd.Intn(17))
}

// anyMsg is a message to a key that can be.
func anyMsg(rnd *rand.Rand, k string) api.Msg {
	switch rnd.Intn(3) {
	case 0:
		return msg.OfPut(k, anyVal(rnd))
	case 1:
		return msg.OfDel(k)
	}
	return msg.OfAdd(k, rnd.Uint64())
}

// anyKeys are up to so many keys, rising.
func anyKeys(rnd *rand.Rand, most int) []string {
	keys := make([]string, rnd.Intn(most+1))
	for i := range keys {
		keys[i] = anyKey(rnd)
	}
	slices.Sort(keys)
	return slices.Compact(keys)
}

// anyRun is a run of up to so many messages.
func anyRun(rnd *rand.Rand, most int) []api.Msg {
	var list []api.Msg
	for _, k := range anyKeys(rnd, most) {
		list = append(list, anyMsg(rnd, k))
	}
	return list
}

// anyRuns are up to so many runs.
func anyRuns(rnd *rand.Rand, most, size int) rows {
	runs := make(rows, rnd.Intn(most+1))
	for i := range runs {
		runs[i] = anyRun(rnd, size)
	}
	return runs
}

// anyItems are up to so many items, rising.
func anyItems(rnd *rand.Rand, most int) []api.Item {
	var list []api.Item
	for _, k := range anyKeys(rnd, most) {
		list = append(list, api.Item{Key: k, Val: anyVal(rnd)})
	}
	return list
}

// sum is the value of both numbers' sum, where both values are numbers'.
func sum(a, b string) string {
	return number(binary.BigEndian.Uint64([]byte(a)) + binary.BigEndian.Uint64([]byte(b)))
}

// thenByWords is what two messages to one key are together, as layer 8's words tell it.
func thenByWords(a, b api.Msg) api.Msg {
	switch {
	case b.Kind != 3:
		return b
	case a.Kind == 2:
		return api.Msg{Kind: 1, Key: a.Key, Val: b.Val}
	case len(a.Val) == 8:
		return api.Msg{Kind: a.Kind, Key: a.Key, Val: sum(a.Val, b.Val)}
	}
	return a
}

// msgsByWords is what runs come to, run by run, in a map.
func msgsByWords(runs rows) []api.Msg {
	byKey := map[string]api.Msg{}
	for _, m := range slices.Concat(runs...) {
		if old, has := byKey[m.Key]; has {
			m = thenByWords(old, m)
		}
		byKey[m.Key] = m
	}
	var row []api.Msg
	for _, m := range byKey {
		row = append(row, m)
	}
	slices.SortFunc(row, func(a, b api.Msg) int { return strings.Compare(a.Key, b.Key) })
	return row
}

// overByWords is what items are behind all messages of all runs, one by one, in a map.
func overByWords(items []api.Item, runs rows) []api.Item {
	vals := map[string]string{}
	for _, x := range items {
		vals[x.Key] = x.Val
	}
	for _, m := range slices.Concat(runs...) {
		old, has := vals[m.Key]
		switch {
		case m.Kind == 2:
			delete(vals, m.Key)
		case m.Kind == 1 || !has:
			vals[m.Key] = m.Val
		case len(old) == 8:
			vals[m.Key] = sum(old, m.Val)
		}
	}
	var list []api.Item
	for k, v := range vals {
		list = append(list, api.Item{Key: k, Val: v})
	}
	slices.SortFunc(list, func(a, b api.Item) int { return strings.Compare(a.Key, b.Key) })
	return list
}

// above is how many messages of all runs have keys above k.
func above(runs rows, k string) int {
	n := 0
	for _, m := range slices.Concat(runs...) {
		if m.Key > k {
			n++
		}
	}
	return n
}

// wantLeft looks how many messages are left, twice: to ask takes none away.
func wantLeft(t *testing.T, m *merge.Merger, want int) {
	t.Helper()
	for range 2 {
		if got := m.Left(); got != want {
			t.Fatalf("%d are left, want %d", got, want)
		}
	}
}

// wantEnd looks whether none is left, however often it is asked.
func wantEnd(t *testing.T, m *merge.Merger) {
	t.Helper()
	for range 3 {
		if x, is := m.Next(); is || x != (api.Msg{}) {
			t.Fatalf("behind the last one: %#v, %v", x, is)
		}
		wantLeft(t, m, 0)
	}
}

// wantNext looks whether a Merger of these runs, that is new, answers just these, and what is left between them.
func wantNext(t *testing.T, m *merge.Merger, runs rows, want []api.Msg) {
	t.Helper()
	wantLeft(t, m, len(slices.Concat(runs...)))
	for i, w := range want {
		if x, is := m.Next(); !is || x != w {
			t.Fatalf("%d of %#v: %#v, %v, want %#v", i, runs, x, is, w)
		}
		wantLeft(t, m, above(runs, w.Key))
	}
	wantEnd(t, m)
}

// wantRow looks whether runs come to this row, by Next and by Msgs.
func wantRow(t *testing.T, runs rows, want []api.Msg) {
	t.Helper()
	wantNext(t, of(t, runs...), runs, want)
	if row, e := merge.Msgs(runs...); e != api.OK || !slices.Equal(row, want) {
		t.Fatalf("Msgs(%#v): %d, %#v, want %#v", runs, e, row, want)
	}
}

// wantOver looks whether items are these behind all messages.
func wantOver(t *testing.T, items []api.Item, runs rows, want []api.Item) {
	t.Helper()
	if list, e := merge.Over(items, runs...); e != api.OK || !slices.Equal(list, want) {
		t.Fatalf("Over(%#v, %#v): %d, %#v, want %#v", items, runs, e, list, want)
	}
}

// wantError looks whether New and Msgs, and Over of good items, have this error and nothing else.
func wantError(t *testing.T, want api.Errno, runs ...[]api.Msg) {
	t.Helper()
	if m, e := merge.New(runs...); m != nil || e != want {
		t.Errorf("New(%#v): %d, %v, want %d", runs, e, m, want)
	}
	if row, e := merge.Msgs(runs...); len(row) != 0 || e != want {
		t.Errorf("Msgs(%#v): %d, %#v, want %d", runs, e, row, want)
	}
	wantOverError(t, want, nil, runs...)
	wantOverError(t, want, []api.Item{{Key: "a", Val: "1"}, {Key: "b"}}, runs...)
}

// wantOverError looks whether Over has this error and nothing else.
func wantOverError(t *testing.T, want api.Errno, items []api.Item, runs ...[]api.Msg) {
	t.Helper()
	if list, e := merge.Over(items, runs...); len(list) != 0 || e != want {
		t.Errorf("Over(%#v, %#v): %d, %#v, want %d", items, runs, e, list, want)
	}
}

// P13.1, P13.2: the chapter's example.
func TestExample(t *testing.T) {
	runs := rows{{msg.OfPut("b", number(5))}, {msg.OfAdd("b", 7)}}
	wantRow(t, runs, []api.Msg{msg.OfPut("b", number(12))})
	wantRow(t, rows{{msg.OfPut("b", "x")}, {msg.OfAdd("b", 7)}}, []api.Msg{msg.OfPut("b", "x")})
	if m := of(t, runs...); m.Left() != 2 {
		t.Error(m.Left())
	}
}

// P13.1, P13.2: runs that share some keys and not others.
func TestThree(t *testing.T) {
	wantRow(t, three(), threeAsOne())
	runs := three()
	slices.Reverse(runs)
	wantRow(t, runs, []api.Msg{msg.OfPut("a", "1"), msg.OfPut("b", "2"), msg.OfDel("c"), msg.OfPut("d", ""), msg.OfAdd("e", 12), msg.OfPut("g", "last")})
}

// P13.1, P13.2: no run, runs of no message alone and among others, and one run.
func TestFew(t *testing.T) {
	one := three()[0]
	wantRow(t, nil, nil)
	wantRow(t, rows{}, nil)
	wantRow(t, rows{nil}, nil)
	wantRow(t, rows{{}, nil, {}}, nil)
	wantRow(t, rows{one}, one)
	wantRow(t, rows{{msg.OfDel("k")}}, []api.Msg{msg.OfDel("k")})
	wantRow(t, rows{nil, one}, one)
	wantRow(t, rows{one, {}}, one)
	runs := three()
	wantRow(t, rows{nil, runs[0], {}, {}, runs[1], nil, runs[2], {}}, threeAsOne())
}

// P13.1: runs whose keys stand one behind the other, turned, and by turns.
func TestNoSharedKey(t *testing.T) {
	a, b, c, d := msg.OfPut("a", "1"), msg.OfDel("b"), msg.OfAdd("c", 3), msg.OfPut("d", "")
	for _, runs := range []rows{{{a, b}, {c, d}}, {{c, d}, {a, b}}, {{a, c}, {b, d}}, {{b, d}, {a, c}}, {{a, d}, {b, c}}, {{b, c}, {a, d}}, {{d}, {c}, {b}, {a}}, {{a}, {b}, {c}, {d}}, {{b}, {d}, {a}, {c}}} {
		wantRow(t, runs, []api.Msg{a, b, c, d})
	}
}

// P13.1: keys stand in the order of their bytes, a text ahead of each longer one that begins with it.
func TestOrder(t *testing.T) {
	keys := []string{"\x00", "\x00\x00", "A", "a", "a\x00", "aa", "ab", "abcdefgg", "abcdefgh", "b", "\x7f", "\x80", "\xff", "\xff\xff"}
	var even, odd, all []api.Msg
	for i, k := range keys {
		m := msg.OfPut(k, number(uint64(i)))
		all = append(all, m)
		if i%2 == 0 {
			even = append(even, m)
		} else {
			odd = append(odd, m)
		}
	}
	wantRow(t, rows{even, odd}, all)
	wantRow(t, rows{odd, even}, all)
}

// P13.1 to P13.3: two and three messages to one key, of each kind and in each order of eldest and youngest.
func TestOneKey(t *testing.T) {
	kinds := []api.Msg{msg.OfPut("k", "text"), msg.OfPut("k", number(5)), msg.OfPut("k", ""), msg.OfPut("k", long(16)), msg.OfDel("k"), msg.OfAdd("k", 7), msg.OfAdd("k", math.MaxUint64), msg.OfAdd("k", 0)}
	befores := [][]api.Item{nil, {{Key: "k", Val: "xyz"}}, {{Key: "k", Val: number(1)}}, {{Key: "k"}}}
	want := func(runs rows) {
		t.Helper()
		wantRow(t, runs, msgsByWords(runs))
		for _, items := range befores {
			wantOver(t, items, runs, overByWords(items, runs))
		}
	}
	for _, a := range kinds {
		want(rows{{a}})
		for _, b := range kinds {
			want(rows{{a}, {b}})
			for _, c := range kinds {
				want(rows{{a}, {b}, {c}})
				want(rows{{a}, nil, {b}, {msg.OfDel("j"), c, msg.OfDel("l")}})
			}
		}
	}
}

// P13.1: the eldest comes first, whichever run has the key, and wherever in it.
func TestEldestFirst(t *testing.T) {
	put, add, del := msg.OfPut("k", number(1)), msg.OfAdd("k", 2), msg.OfDel("k")
	ahead := []api.Msg{msg.OfDel("a"), msg.OfDel("b"), msg.OfDel("c")}
	for _, c := range []struct {
		list []api.Msg
		want api.Msg
	}{
		{[]api.Msg{put, add, del}, del}, {[]api.Msg{put, del, add}, msg.OfPut("k", number(2))}, {[]api.Msg{add, put, del}, del},
		{[]api.Msg{add, del, put}, put}, {[]api.Msg{del, add, put}, put}, {[]api.Msg{del, put, add}, msg.OfPut("k", number(3))},
	} {
		for most := range 4 * 4 * 4 {
			runs := rows{
				append(slices.Clone(ahead[:most%4]), c.list[0]),
				append(slices.Clone(ahead[:most/4%4]), c.list[1]),
				append(slices.Clone(ahead[:most/16]), c.list[2], msg.OfDel("z")),
			}
			n := max(most%4, most/4%4, most/16)
			wantRow(t, runs, slices.Concat(ahead[:n], []api.Msg{c.want, msg.OfDel("z")}))
		}
	}
}

// P13.1: many runs of one key.
func TestManyOfOneKey(t *testing.T) {
	const many = 1000
	var runs rows
	for i := range many {
		runs = append(runs, []api.Msg{msg.OfAdd("k", uint64(i))})
	}
	wantRow(t, runs, []api.Msg{msg.OfAdd("k", many*(many-1)/2)})
	runs[500] = []api.Msg{msg.OfDel("k")}
	runs[997] = []api.Msg{msg.OfPut("k", "v")}
	wantRow(t, runs[:501], []api.Msg{msg.OfDel("k")})
	wantRow(t, runs[:503], []api.Msg{msg.OfPut("k", number(501+502))})
	wantRow(t, runs, []api.Msg{msg.OfPut("k", "v")})
	runs[997] = []api.Msg{msg.OfPut("k", number(math.MaxUint64))}
	wantRow(t, runs, []api.Msg{msg.OfPut("k", number(998+999-1))})
}

// P13.1, P13.2: any runs.
func TestAny(t *testing.T) {
	rnd := rand.New(rand.NewSource(1))
	for range 4000 {
		runs := anyRuns(rnd, 8, 12)
		wantRow(t, runs, msgsByWords(runs))
	}
}

// P13.1: Mergers of the same runs don't know of each other.
func TestSideBySide(t *testing.T) {
	runs, want := three(), threeAsOne()
	a, b := of(t, runs...), of(t, runs...)
	for range 3 {
		a.Next()
	}
	wantLeft(t, b, 12)
	wantNext(t, b, runs, want)
	wantLeft(t, a, above(runs, "c"))
	if x, is := a.Next(); !is || x != want[3] {
		t.Error(x, is)
	}
}

// P13.1, P13.2: messages that can't be, in any run and at any place.
func TestWrongMsg(t *testing.T) {
	for _, m := range wrong() {
		wantError(t, api.ErrArg, []api.Msg{m})
		wantError(t, api.ErrArg, []api.Msg{msg.OfDel("a"), m})
		wantError(t, api.ErrArg, []api.Msg{m, msg.OfDel("z")})
		for at := range 3 {
			runs := three()
			runs[at] = []api.Msg{msg.OfDel("a"), m, msg.OfDel("z")}
			wantError(t, api.ErrArg, runs...)
			runs[at] = append(three()[at], m)
			wantError(t, api.ErrArg, runs...)
		}
	}
}

// P13.1, P13.2: keys that fall, and one key twice, in any run.
func TestTurned(t *testing.T) {
	for _, run := range turned() {
		wantError(t, api.ErrState, run)
		wantError(t, api.ErrState, nil, run, nil)
		for at := range 3 {
			runs := three()
			runs[at] = run
			wantError(t, api.ErrState, runs...)
		}
	}
	for at := range 3 {
		runs := three()
		runs[at] = append(runs[at], runs[at][len(runs[at])-1])
		wantError(t, api.ErrState, runs...)
	}
}

// P13.1: a message that can't be is told ahead of keys that don't rise, in whichever run both are.
func TestWrongAheadOfTurned(t *testing.T) {
	for _, m := range wrong() {
		for _, run := range turned() {
			wantError(t, api.ErrArg, run, []api.Msg{m})
			wantError(t, api.ErrArg, []api.Msg{m}, run)
			wantError(t, api.ErrArg, append(slices.Clone(run), m))
			wantError(t, api.ErrArg, append([]api.Msg{m}, run...))
			wantError(t, api.ErrArg, run, nil, three()[0], append(three()[1], m))
		}
	}
	// A message that can't be may be what doesn't rise.
	wantError(t, api.ErrArg, []api.Msg{msg.OfDel("a"), {Kind: 9, Key: "a"}})
	wantError(t, api.ErrArg, []api.Msg{msg.OfDel("a"), {}})
}

// P13.3: items and runs.
func TestOver(t *testing.T) {
	items := []api.Item{{Key: "a", Val: "old"}, {Key: "b", Val: "x"}, {Key: "c", Val: number(10)}, {Key: "e", Val: number(30)}, {Key: "f", Val: "stays"}, {Key: "g", Val: "z"}}
	wantOver(t, items, three(), []api.Item{{Key: "b", Val: "2"}, {Key: "c", Val: number(8)}, {Key: "d", Val: ""}, {Key: "e", Val: number(42)}, {Key: "f", Val: "stays"}, {Key: "g", Val: "last"}})
	wantOver(t, nil, three(), []api.Item{{Key: "b", Val: "2"}, {Key: "c", Val: number(8)}, {Key: "d", Val: ""}, {Key: "e", Val: number(12)}, {Key: "g", Val: "last"}})
	wantOver(t, items, three()[1:2], []api.Item{{Key: "a", Val: "old"}, {Key: "b", Val: "2"}, {Key: "c", Val: number(17)}, {Key: "e", Val: number(36)}, {Key: "f", Val: "stays"}, {Key: "g", Val: "z"}})
	wantOver(t, []api.Item{{Key: "k", Val: "v"}}, rows{{msg.OfPut("a", "1")}, {msg.OfPut("z", "2")}}, []api.Item{{Key: "a", Val: "1"}, {Key: "k", Val: "v"}, {Key: "z", Val: "2"}})
}

// P13.3: no item, no run, runs of no message.
func TestOverOfNothing(t *testing.T) {
	items := []api.Item{{Key: "a", Val: "1"}, {Key: "b"}}
	for _, runs := range []rows{nil, {}, {nil}, {{}, nil}} {
		wantOver(t, nil, runs, nil)
		wantOver(t, []api.Item{}, runs, nil)
		wantOver(t, items, runs, items)
	}
	wantOver(t, nil, rows{{msg.OfDel("a")}}, nil)
	wantOver(t, nil, rows{{msg.OfPut("a", "1")}, {msg.OfDel("a")}}, nil)
}

// P13.3: items that Dels take away: the first one, the last, all, those that aren't there.
func TestOverOfDels(t *testing.T) {
	items := []api.Item{{Key: "a", Val: "1"}, {Key: "b", Val: "2"}, {Key: "c", Val: "3"}}
	a, b, c := msg.OfDel("a"), msg.OfDel("b"), msg.OfDel("c")
	wantOver(t, items, rows{{a}}, items[1:])
	wantOver(t, items, rows{{c}}, items[:2])
	wantOver(t, items, rows{{b}}, []api.Item{items[0], items[2]})
	wantOver(t, items, rows{{a, b, c}}, nil)
	wantOver(t, items, rows{{c}, {a}, {b}}, nil)
	wantOver(t, items, rows{{msg.OfDel("aa"), msg.OfDel("z")}}, items)
	wantOver(t, items, rows{{a, b, c}, {msg.OfPut("b", "new")}}, []api.Item{{Key: "b", Val: "new"}})
}

// P13.3: Adds to a number's value, round and round, to none, and to what is no number's.
func TestOverOfAdds(t *testing.T) {
	add := rows{{msg.OfAdd("k", 3)}, {msg.OfAdd("k", 4)}}
	for _, c := range []struct{ val, want string }{{number(5), number(12)}, {number(math.MaxUint64), number(6)}, {"", ""}, {"xyz", "xyz"}, {long(7), long(7)}, {long(9), long(9)}, {long(16), long(16)}, {"01234567", sum("01234567", number(7))}} {
		wantOver(t, []api.Item{{Key: "k", Val: c.val}}, add, []api.Item{{Key: "k", Val: c.want}})
	}
	wantOver(t, nil, add, []api.Item{{Key: "k", Val: number(7)}})
	wantOver(t, []api.Item{{Key: "k", Val: "xyz"}}, rows{add[0], {msg.OfDel("k")}, add[1]}, []api.Item{{Key: "k", Val: number(4)}})
	wantOver(t, []api.Item{{Key: "k", Val: "xyz"}}, rows{add[0], {msg.OfPut("k", "abc")}, add[1]}, []api.Item{{Key: "k", Val: "abc"}})
	wantOver(t, []api.Item{{Key: "k", Val: "xyz"}}, rows{{msg.OfPut("k", number(1))}, add[0], add[1]}, []api.Item{{Key: "k", Val: number(8)}})
}

// P13.3: any items, and any runs.
func TestOverAny(t *testing.T) {
	rnd := rand.New(rand.NewSource(2))
	for range 4000 {
		items, runs := anyItems(rnd, 20), anyRuns(rnd, 6, 12)
		wantOver(t, items, runs, overByWords(items, runs))
	}
}

// P13.3: wrong items; ErrArg ahead of ErrState, and both ahead of New's errors.
func TestOverWrongItems(t *testing.T) {
	falling := [][]api.Item{{{Key: "b"}, {Key: "a"}}, {{Key: "a"}, {Key: "a"}}, {{Key: "a", Val: "1"}, {Key: "a", Val: "2"}}, {{Key: "a"}, {Key: "c"}, {Key: "b"}}, {{Key: "ab"}, {Key: "a"}}, {{Key: "a\x00"}, {Key: "a"}}, {{Key: "a"}, {Key: "b"}, {Key: "b"}}}
	runs := []rows{nil, {nil}, three(), {{{}}}, {{msg.OfDel("b"), msg.OfDel("a")}}, {{msg.OfDel("b"), msg.OfDel("a")}, {{}}}}
	for _, r := range runs {
		for _, list := range falling {
			wantOverError(t, api.ErrState, list, r...)
			for _, x := range wrongItems() {
				wantOverError(t, api.ErrArg, append(slices.Clone(list), x), r...)
				wantOverError(t, api.ErrArg, append([]api.Item{x}, list...), r...)
			}
		}
		for _, x := range wrongItems() {
			wantOverError(t, api.ErrArg, []api.Item{x}, r...)
			wantOverError(t, api.ErrArg, []api.Item{{Key: "a"}, x, {Key: "c"}}, r...)
		}
	}
}

// asGroups puts some neighbours of runs together first, and those again, till so many are left.
func asGroups(t *testing.T, rnd *rand.Rand, runs rows, left int) rows {
	t.Helper()
	runs = slices.Clone(runs)
	for len(runs) > left {
		from := rnd.Intn(len(runs))
		to := from + 1 + rnd.Intn(len(runs)-from)
		row, e := merge.Msgs(runs[from:to]...)
		if e != api.OK {
			t.Fatal(e)
		}
		runs = slices.Replace(runs, from, to, row)
	}
	return runs
}

// P13.4: whichever runs are put together first, the row is the same, and what items are behind it.
func TestGroups(t *testing.T) {
	rnd := rand.New(rand.NewSource(3))
	for range 3000 {
		runs, items := anyRuns(rnd, 7, 6), anyItems(rnd, 6)
		groups := asGroups(t, rnd, runs, 1+rnd.Intn(4))
		wantRow(t, groups, msgsByWords(runs))
		wantOver(t, items, groups, overByWords(items, runs))
		at := rnd.Intn(len(groups) + 1)
		half, e := merge.Over(items, groups[:at]...)
		if e != api.OK {
			t.Fatal(e)
		}
		wantOver(t, half, groups[at:], overByWords(items, runs))
	}
}

// P13.4: all groups of three runs of one key, of each kind.
func TestGroupsOfOneKey(t *testing.T) {
	kinds := []api.Msg{msg.OfPut("k", "text"), msg.OfPut("k", number(5)), msg.OfPut("k", ""), msg.OfDel("k"), msg.OfAdd("k", 7), msg.OfAdd("k", math.MaxUint64)}
	for _, a := range kinds {
		for _, b := range kinds {
			for _, c := range kinds {
				want, _ := merge.Msgs([]api.Msg{a}, []api.Msg{b}, []api.Msg{c})
				first, _ := merge.Msgs([]api.Msg{a}, []api.Msg{b})
				last, _ := merge.Msgs([]api.Msg{b}, []api.Msg{c})
				wantRow(t, rows{first, {c}}, want)
				wantRow(t, rows{{a}, last}, want)
			}
		}
	}
}

// P13.1, P1: Next and Left of nil, whatever was asked ahead of it.
func TestNil(t *testing.T) {
	var none *merge.Merger
	wantEnd(t, none)
	none, _ = merge.New([]api.Msg{{}})
	wantEnd(t, none)
}

// spoil changes all of a list, its spare room too.
func spoil(list []api.Msg) {
	list = list[:cap(list)]
	for i := range list {
		list[i] = msg.OfPut("spoilt", "one")
	}
}

// roomy are the same runs, each with spare room, in a list with spare room.
func roomy(runs rows) rows {
	list := make(rows, 0, len(runs)+2)
	for _, run := range runs {
		list = append(list, append(make([]api.Msg, 0, len(run)+2), run...))
	}
	return list
}

// wantKept looks whether roomy runs are still these, their spare room empty.
func wantKept(t *testing.T, list, runs rows) {
	t.Helper()
	if len(list) != len(runs) || list[:cap(list)][len(list)] != nil {
		t.Fatalf("the runs are %#v", list[:cap(list)])
	}
	for i, run := range list {
		if want := append(slices.Clone(runs[i]), api.Msg{}, api.Msg{}); !slices.Equal(run[:len(run)+2], want) {
			t.Fatalf("run %d is %#v", i, run[:len(run)+2])
		}
	}
}

// Rule 3: runs and items that are handed in are neither changed nor kept, their spare room neither.
func TestHandedIn(t *testing.T) {
	list := roomy(three())
	m := of(t, list...)
	wantKept(t, list, three())
	row, _ := merge.Msgs(list...)
	items := append(make([]api.Item, 0, 4), api.Item{Key: "a", Val: "1"}, api.Item{Key: "x", Val: "2"})
	was := slices.Clone(items[:4])
	behind, _ := merge.Over(items, list...)
	same, _ := merge.Over(items)
	if !slices.Equal(items[:4], was) {
		t.Errorf("the items are %#v", items[:4])
	}
	m.Next()
	m.Next()
	wantKept(t, list, three())
	for i, run := range list {
		spoil(run)
		list[i] = nil
	}
	clear(items[:4])
	wantLeft(t, m, above(three(), "b"))
	for _, want := range threeAsOne()[2:] {
		if x, is := m.Next(); !is || x != want {
			t.Errorf("%#v, %v, want %#v", x, is, want)
		}
	}
	wantEnd(t, m)
	if !slices.Equal(row, threeAsOne()) || !slices.Equal(behind, overByWords(was[:2], three())) || !slices.Equal(same, was[:2]) {
		t.Errorf("%#v, %#v, %#v", row, behind, same)
	}
}

// Rule 3: lists of two calls share no memory, not even those of one run and of no run.
func TestHandedOut(t *testing.T) {
	one, items := three()[:1], []api.Item{{Key: "a", Val: "1"}, {Key: "x", Val: "2"}}
	for _, runs := range []rows{one, three()} {
		a, _ := merge.Msgs(runs...)
		b, _ := merge.Msgs(runs...)
		spoil(a)
		if !slices.Equal(b, msgsByWords(runs)) || !slices.Equal(runs[0], three()[0]) {
			t.Errorf("%#v, %#v", b, runs[0])
		}
	}
	for _, runs := range []rows{nil, {nil}, one} {
		a, _ := merge.Over(items, runs...)
		b, _ := merge.Over(items, runs...)
		clear(a[:cap(a)])
		if !slices.Equal(b, overByWords(items, runs)) || items[0].Key != "a" || items[1].Key != "x" {
			t.Errorf("%#v, %#v", b, items)
		}
	}
}

// P13.1: what Next answered isn't changed by a later one, nor the other way round.
func TestNextIsNew(t *testing.T) {
	m := of(t, three()...)
	var row []api.Msg
	for x, is := m.Next(); is; x, is = m.Next() {
		row = append(row, x)
		x.Key, x.Val = "spoilt", "one"
	}
	if !slices.Equal(row, threeAsOne()) {
		t.Errorf("%#v", row)
	}
}

// Great runs and many runs are gone through to their end.
func TestMany(t *testing.T) {
	const many, each = 2000, 100
	var runs rows
	for i := range many {
		var run []api.Msg
		for j := range each {
			run = append(run, msg.OfAdd(number(uint64(j*many/10+i/10)), 1))
		}
		runs = append(runs, run)
	}
	row, e := merge.Msgs(runs...)
	if e != api.OK || len(row) != many*each/10 {
		t.Fatal(e, len(row))
	}
	for i, x := range row {
		if x != msg.OfAdd(number(uint64(i)), 10) {
			t.Fatalf("%d: %#v", i, x)
		}
	}
	list, e := merge.Over(nil, runs...)
	if e != api.OK || len(list) != len(row) || list[len(row)-1] != (api.Item{Key: number(many*each/10 - 1), Val: number(10)}) {
		t.Error(e, len(list))
	}
}

// FuzzAny holds all calls against the words of the chapter, at any messages and item.
func FuzzAny(f *testing.F) {
	f.Add(1, "a", "1", 3, "b", number(7), 3, "b", number(5), "b", number(1))
	f.Add(1, "abcdefgh", long(16), 2, "abcdefghi", "", 1, "", "x", "z", "a")
	f.Add(2, "k", "", 3, "k", number(1), 1, "k", "", "", "k")
	f.Fuzz(func(t *testing.T, kindX int, keyX, valX string, kindY int, keyY, valY string, kindZ int, keyZ, valZ, k, v string) {
		x, y, z := api.Msg{Kind: kindX, Key: keyX, Val: valX}, api.Msg{Kind: kindY, Key: keyY, Val: valY}, api.Msg{Kind: kindZ, Key: keyZ, Val: valZ}
		items := []api.Item{{Key: k, Val: v}}
		isItem := key.Is(k) && key.IsVal(v)
		for _, runs := range []rows{{{x}, {y}, {z}}, {{x, y}, {z}}, {{x}, {y, z}}, {{x, y, z}}} {
			want := errorByWords(runs)
			if want != api.OK {
				wantError(t, want, runs...)
			} else {
				wantRow(t, runs, msgsByWords(runs))
			}
			switch {
			case !isItem:
				wantOverError(t, api.ErrArg, items, runs...)
			case want != api.OK:
				wantOverError(t, want, items, runs...)
			default:
				wantOver(t, items, runs, overByWords(items, runs))
			}
		}
	})
}

// errorByWords is the error that New has of runs.
func errorByWords(runs rows) api.Errno {
	e := api.OK
	for _, run := range runs {
		for i, m := range run {
			if !msg.Is(m) {
				return api.ErrArg
			}
			if i > 0 && run[i-1].Key >= m.Key {
				e = api.ErrState
			}
		}
	}
	return e
}
