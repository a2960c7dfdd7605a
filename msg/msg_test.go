package msg_test

import (
	"encoding/binary"
	"math"
	"math/rand"
	"slices"
	"strings"
	"testing"

	"granger/api"
	"granger/msg"
	"granger/pen"
)

// kinds are all that can be, and such as can't, the ends of the type and those whose lowest byte is a kind's among them.
var kinds = []int{msg.Put, msg.Del, msg.Add, 0, 4, 5, -1, -2, -255, 127, 255, 256, 257, 258, 259, 1 << 32, 1<<32 + 1, math.MinInt, math.MinInt + 1, math.MaxInt}

// long is a text of so many bytes.
func long(n int) string {
	return strings.Repeat("x", n)
}

// number is a number's value, the highest byte first.
func number(n uint64) string {
	return string(binary.BigEndian.AppendUint64(nil, n))
}

// numbers are such as Adds and values may have: the ends, the middle, and bytes of each place.
func numbers() []uint64 {
	return []uint64{0, 1, 5, 7, 12, 255, 256, 1<<32 - 1, 1 << 32, 1<<32 + 1, 1<<63 - 1, 1 << 63, 1<<63 + 1, 1<<64 - 2, 1<<64 - 1, 0x0102030405060708}
}

// keys are some of those that can be, and of those that can't, at the edges that the document names.
func keys() []string {
	return []string{"a", "", "k", "\x00", "\xff", "ab", "abcdefg", "abcdefgh", "abcdefghi", strings.Repeat("\x00", 8), strings.Repeat("\xff", 8), strings.Repeat("\x00", 9), "éééé", "ééééé", long(255), long(256), long(300)}
}

// vals are texts of no bytes up to such as are no values, 7, 8, 9, 15, 16 and 17 bytes among them, and numbers' values.
func vals() []string {
	list := []string{"", "x", "\x00", "\xff"}
	for _, n := range []int{7, 8, 9, 15, 16, 17, 255, 256, 300} {
		list = append(list, long(n), strings.Repeat("\x00", n), strings.Repeat("\xff", n))
	}
	for _, n := range numbers() {
		list = append(list, number(n))
	}
	return list
}

// all are messages of every kind, key and value of these, those that can be and those that can't.
func all() []api.Msg {
	var list []api.Msg
	for _, kind := range kinds {
		for _, k := range keys() {
			for _, v := range vals() {
				list = append(list, api.Msg{Kind: kind, Key: k, Val: v})
			}
		}
	}
	return list
}

// good are messages to a key, all of which can be.
func good(k string) []api.Msg {
	list := []api.Msg{msg.OfDel(k)}
	for _, v := range vals() {
		if len(v) <= 16 {
			list = append(list, msg.OfPut(k, v))
		}
	}
	for _, n := range numbers() {
		list = append(list, msg.OfAdd(k, n))
	}
	return list
}

// wrong are messages that can't be, one for each thing that may be wrong.
func wrong() []api.Msg {
	return []api.Msg{
		{}, {Kind: 0, Key: "k"}, {Kind: 4, Key: "k"}, {Kind: -1, Key: "k"}, {Kind: 256, Key: "k"}, {Kind: 257, Key: "k"}, {Kind: math.MinInt, Key: "k"}, {Kind: math.MaxInt, Key: "k"},
		{Kind: 1, Key: ""}, {Kind: 1, Key: "123456789"}, {Kind: 1, Key: long(256)}, {Kind: 1, Key: "k", Val: long(17)}, {Kind: 1, Key: "k", Val: long(256)},
		{Kind: 2, Key: ""}, {Kind: 2, Key: "123456789"}, {Kind: 2, Key: "k", Val: "x"}, {Kind: 2, Key: "k", Val: "\x00"}, {Kind: 2, Key: "k", Val: number(1)},
		{Kind: 3, Key: "", Val: number(1)}, {Kind: 3, Key: "123456789", Val: number(1)}, {Kind: 3, Key: "k"}, {Kind: 3, Key: "k", Val: long(7)}, {Kind: 3, Key: "k", Val: long(9)}, {Kind: 3, Key: "k", Val: long(16)}, {Kind: 3, Key: "k", Val: long(17)},
	}
}

// isByWords tells whether a message can be, as the chapter's words tell it.
func isByWords(m api.Msg) bool {
	key := len(m.Key) >= 1 && len(m.Key) <= 8
	put := m.Kind == 1 && len(m.Val) <= 16
	del := m.Kind == 2 && len(m.Val) == 0
	add := m.Kind == 3 && len(m.Val) == 8
	return key && (put || del || add)
}

// applyByWords is what a key has behind a message, as the chapter's words tell it.
func applyByWords(m api.Msg, val string, has bool) (string, bool) {
	switch {
	case !isByWords(m) && !has:
		return "", false
	case !isByWords(m):
		return val, true
	case m.Kind == 1:
		return m.Val, true
	case m.Kind == 2:
		return "", false
	case !has:
		return m.Val, true
	case len(val) != 8:
		return val, true
	}
	return number(binary.BigEndian.Uint64([]byte(val)) + binary.BigEndian.Uint64([]byte(m.Val))), true
}

// bytesByWords is a message's bytes, of one that can be.
func bytesByWords(list ...api.Msg) string {
	var b []byte
	for _, m := range list {
		b = append(b, byte(m.Kind), byte(len(m.Key)))
		b = append(b, m.Key...)
		b = append(b, byte(len(m.Val)))
		b = append(b, m.Val...)
	}
	return string(b)
}

// rawBytes is bytes of the form of a message's, whatever its kind, key and value are.
func rawBytes(kind byte, k, v string) string {
	return string([]byte{kind, byte(len(k))}) + k + string([]byte{byte(len(v))}) + v
}

func wantApply(t *testing.T, m api.Msg, val string, has bool, want string, wantHas bool) {
	t.Helper()
	if got, is := msg.Apply(m, val, has); got != want || is != wantHas {
		t.Errorf("Apply(%#v, %#v, %v) is %#v, %v, want %#v, %v", m, val, has, got, is, want, wantHas)
	}
}

func wantThen(t *testing.T, a, b, want api.Msg) {
	t.Helper()
	if got, e := msg.Then(a, b); got != want || e != api.OK {
		t.Errorf("Then(%#v, %#v) is %#v, %d, want %#v", a, b, got, e, want)
	}
}

func wantNoThen(t *testing.T, a, b api.Msg) {
	t.Helper()
	if got, e := msg.Then(a, b); got != (api.Msg{}) || e != api.ErrArg {
		t.Errorf("Then(%#v, %#v) is %#v, %d, want ErrArg", a, b, got, e)
	}
}

// wantDone looks whether a reader is done: ErrForm, and nothing but zero values from then on.
func wantDone(t *testing.T, in *pen.In) {
	t.Helper()
	for range 2 {
		if in.Err() != api.ErrForm || in.End() != api.ErrForm || in.Left() != 0 {
			t.Fatalf("errors %d and %d, %d bytes left", in.Err(), in.End(), in.Left())
		}
		if m := msg.Read(in); m != (api.Msg{}) {
			t.Fatalf("a message %#v behind what was wrong", m)
		}
		if in.Num(1) != 0 || in.Text(255) != "" || in.Raw(1) != "" {
			t.Fatal("bytes behind what was wrong")
		}
	}
}

// P8.1: the kinds' numbers.
func TestKinds(t *testing.T) {
	if msg.Put != 1 || msg.Del != 2 || msg.Add != 3 {
		t.Error(msg.Put, msg.Del, msg.Add)
	}
}

// P8.1: a message of each kind, whether it can be or not.
func TestOf(t *testing.T) {
	for _, k := range keys() {
		if got, want := msg.OfDel(k), (api.Msg{Kind: 2, Key: k}); got != want {
			t.Errorf("OfDel(%#v) is %#v", k, got)
		}
		for _, v := range vals() {
			if got, want := msg.OfPut(k, v), (api.Msg{Kind: 1, Key: k, Val: v}); got != want {
				t.Errorf("OfPut(%#v, %#v) is %#v", k, v, got)
			}
		}
		for _, n := range numbers() {
			if got, want := msg.OfAdd(k, n), (api.Msg{Kind: 3, Key: k, Val: number(n)}); got != want {
				t.Errorf("OfAdd(%#v, %d) is %#v", k, n, got)
			}
		}
	}
	if got := msg.OfAdd("k", 258); got.Val != "\x00\x00\x00\x00\x00\x00\x01\x02" {
		t.Errorf("OfAdd of 258 has %#v", got.Val)
	}
}

// P8.1: which messages can be, at the edges of key, value and kind.
func TestIs(t *testing.T) {
	for _, c := range []struct {
		m    api.Msg
		want bool
	}{
		{msg.OfPut("k", "v"), true}, {msg.OfPut("", "v"), false}, {msg.OfPut("abcdefgh", "v"), true}, {msg.OfPut("abcdefghi", "v"), false}, {msg.OfPut("k", ""), true}, {msg.OfPut("k", long(16)), true}, {msg.OfPut("k", long(17)), false}, {msg.OfPut("k", long(272)), false},
		{msg.OfDel("k"), true}, {msg.OfDel(""), false}, {msg.OfDel("abcdefgh"), true}, {msg.OfDel("abcdefghi"), false}, {api.Msg{Kind: 2, Key: "k", Val: "x"}, false}, {api.Msg{Kind: 2, Key: "k", Val: "\x00"}, false},
		{msg.OfAdd("k", 0), true}, {msg.OfAdd("k", 1<<64-1), true}, {msg.OfAdd("", 1), false}, {msg.OfAdd("abcdefgh", 1), true}, {msg.OfAdd("abcdefghi", 1), false}, {api.Msg{Kind: 3, Key: "k", Val: long(7)}, false}, {api.Msg{Kind: 3, Key: "k", Val: long(8)}, true}, {api.Msg{Kind: 3, Key: "k", Val: long(9)}, false}, {api.Msg{Kind: 3, Key: "k"}, false},
		{api.Msg{}, false}, {api.Msg{Kind: 0, Key: "k"}, false}, {api.Msg{Kind: 4, Key: "k"}, false}, {api.Msg{Kind: -1, Key: "k"}, false}, {api.Msg{Kind: 256, Key: "k"}, false}, {api.Msg{Kind: 257, Key: "k"}, false}, {api.Msg{Kind: 258, Key: "k"}, false}, {api.Msg{Kind: 259, Key: "k", Val: long(8)}, false},
	} {
		if got := msg.Is(c.m); got != c.want {
			t.Errorf("Is(%#v) is %v", c.m, got)
		}
	}
	for _, m := range wrong() {
		if msg.Is(m) {
			t.Errorf("%#v can be", m)
		}
	}
}

// P8.1: Is and Weight as their words tell them, of all messages.
func TestIsAndWeightOfAll(t *testing.T) {
	for _, m := range all() {
		if got := msg.Is(m); got != isByWords(m) {
			t.Fatalf("Is(%#v) is %v", m, got)
		}
		if got := msg.Weight(m); got != 3+len(m.Key)+len(m.Val) {
			t.Fatalf("Weight(%#v) is %d", m, got)
		}
	}
}

// P8.1: a message's weight, of one that can't be too.
func TestWeight(t *testing.T) {
	for _, c := range []struct {
		m    api.Msg
		want int
	}{
		{api.Msg{}, 3}, {msg.OfPut("k", ""), 4}, {msg.OfPut("abcdefgh", long(16)), 27}, {msg.OfDel("k"), 4}, {msg.OfDel("abcdefgh"), 11}, {msg.OfAdd("k", 0), 12}, {msg.OfAdd("abcdefgh", 1<<64-1), 19},
		{msg.OfPut("", long(17)), 20}, {msg.OfDel("abcdefghi"), 12}, {msg.OfPut(long(300), long(400)), 703}, {api.Msg{Kind: -1, Key: "ab", Val: "c"}, 6}, {api.Msg{Kind: math.MaxInt}, 3},
	} {
		if got := msg.Weight(c.m); got != c.want {
			t.Errorf("Weight(%#v) is %d, want %d", c.m, got, c.want)
		}
	}
}

// P8.1: a Put and a Del, whatever the key has.
func TestApplyPutDel(t *testing.T) {
	for _, has := range []bool{false, true} {
		for _, val := range vals() {
			wantApply(t, msg.OfPut("k", "v"), val, has, "v", true)
			wantApply(t, msg.OfPut("k", ""), val, has, "", true)
			wantApply(t, msg.OfPut("abcdefgh", long(16)), val, has, long(16), true)
			wantApply(t, msg.OfDel("k"), val, has, "", false)
		}
	}
}

// P8.1: an Add to a key without a value, to a number's, and to any other one.
func TestApplyAdd(t *testing.T) {
	for _, val := range vals() {
		wantApply(t, msg.OfAdd("k", 3), val, false, number(3), true)
	}
	for _, val := range []string{"", "x", long(7), long(9), long(15), long(16), strings.Repeat("\x00", 7), strings.Repeat("\x00", 9), strings.Repeat("\x00", 16), long(17), long(300)} {
		wantApply(t, msg.OfAdd("k", 3), val, true, val, true)
	}
	for _, c := range []struct{ val, add, want uint64 }{
		{0, 0, 0}, {5, 7, 12}, {7, 5, 12}, {255, 1, 256}, {1<<32 - 1, 1, 1 << 32}, {1 << 32, 1<<32 - 1, 1<<33 - 1}, {1<<63 - 1, 1, 1 << 63}, {1 << 63, 1, 1<<63 + 1}, {1 << 63, 1 << 63, 0}, {1<<64 - 1, 0, 1<<64 - 1}, {1<<64 - 1, 1, 0}, {1<<64 - 1, 2, 1}, {1<<64 - 1, 1<<64 - 1, 1<<64 - 2}, {1, 1<<64 - 1, 0},
	} {
		wantApply(t, msg.OfAdd("k", c.add), number(c.val), true, number(c.want), true)
	}
	wantApply(t, msg.OfAdd("k", 1), "abcdefgh", true, "abcdefgi", true)
}

// P8.1: of a message that can't be all is as it was.
func TestApplyWrong(t *testing.T) {
	for _, m := range wrong() {
		for _, val := range vals() {
			wantApply(t, m, val, true, val, true)
			wantApply(t, m, val, false, "", false)
		}
	}
}

// P8.1: Apply as its words tell it, of all messages.
func TestApplyOfAll(t *testing.T) {
	list := vals()
	for i, m := range all() {
		for j := range 8 {
			val := list[(i*7+j)%len(list)]
			for _, has := range []bool{false, true} {
				want, wantHas := applyByWords(m, val, has)
				wantApply(t, m, val, has, want, wantHas)
			}
		}
	}
}

// P8.2: all nine pairs of kinds, the chapter's example, and the edges of an Add behind a Put and behind an Add.
func TestThen(t *testing.T) {
	put, del, add := msg.OfPut, msg.OfDel("k"), msg.OfAdd
	for _, c := range []struct{ a, b, want api.Msg }{
		{put("k", "x"), put("k", "y"), put("k", "y")}, {put("k", "x"), put("k", ""), put("k", "")}, {put("k", ""), put("k", long(16)), put("k", long(16))},
		{put("k", "x"), del, del}, {put("k", number(5)), del, del},
		{put("k", number(5)), add("k", 7), put("k", number(12))}, {put("k", number(1<<64-1)), add("k", 2), put("k", number(1))}, {put("k", number(1<<63)), add("k", 1<<63), put("k", number(0))}, {put("k", number(5)), add("k", 0), put("k", number(5))},
		{put("k", ""), add("k", 7), put("k", "")}, {put("k", "x"), add("k", 7), put("k", "x")}, {put("k", long(7)), add("k", 7), put("k", long(7))}, {put("k", "abcdefgh"), add("k", 1), put("k", "abcdefgi")}, {put("k", long(9)), add("k", 7), put("k", long(9))}, {put("k", long(16)), add("k", 7), put("k", long(16))},
		{del, put("k", "y"), put("k", "y")}, {del, put("k", ""), put("k", "")},
		{del, del, del},
		{del, add("k", 5), put("k", number(5))}, {del, add("k", 0), put("k", number(0))}, {del, add("k", 1<<64-1), put("k", number(1<<64-1))},
		{add("k", 5), put("k", "y"), put("k", "y")}, {add("k", 5), put("k", ""), put("k", "")}, {add("k", 5), put("k", number(9)), put("k", number(9))},
		{add("k", 5), del, del},
		{add("k", 5), add("k", 6), add("k", 11)}, {add("k", 1<<64-1), add("k", 1), add("k", 0)}, {add("k", 1<<64-1), add("k", 1<<64-1), add("k", 1<<64-2)}, {add("k", 0), add("k", 0), add("k", 0)}, {add("k", 1<<32-1), add("k", 1), add("k", 1<<32)},
		{put("abcdefgh", number(1)), add("abcdefgh", 2), put("abcdefgh", number(3))}, {add("\x00", 1), add("\x00", 2), add("\x00", 3)},
	} {
		wantThen(t, c.a, c.b, c.want)
	}
}

// P8.2: unlike keys, and messages that can't be, on either side and on both.
func TestThenWrong(t *testing.T) {
	list := good("k")
	others := slices.Concat(good("l"), good("K"), good("kk"), good("k\x00"), good("abcdefgh"))
	for i, a := range list {
		for j := range 20 {
			b := others[(i*13+j*31)%len(others)]
			wantNoThen(t, a, b)
			wantNoThen(t, b, a)
		}
		for _, b := range wrong() {
			wantNoThen(t, a, b)
			wantNoThen(t, b, a)
		}
	}
	for _, a := range wrong() {
		wantNoThen(t, a, a)
		for _, b := range wrong() {
			wantNoThen(t, a, b)
		}
	}
}

// P8.2: Then of any two of all messages is ErrArg just where its words say so, and else one that can be, with their key.
func TestThenOfAll(t *testing.T) {
	list := slices.Concat(all(), good("k"), good("k"), good("abcdefgh"))
	rnd := rand.New(rand.NewSource(1))
	for range 100000 {
		a, b := list[rnd.Intn(len(list))], list[rnd.Intn(len(list))]
		if rnd.Intn(2) == 0 {
			b.Key = a.Key
		}
		got, e := msg.Then(a, b)
		if !isByWords(a) || !isByWords(b) || a.Key != b.Key {
			if e != api.ErrArg || got != (api.Msg{}) {
				t.Fatalf("Then(%#v, %#v) is %#v, %d", a, b, got, e)
			}
			continue
		}
		if e != api.OK || !msg.Is(got) || got.Key != a.Key {
			t.Fatalf("Then(%#v, %#v) is %#v, %d", a, b, got, e)
		}
	}
}

// P8.4: what Then makes does what both do, to whatever the key has.
func TestThenDoesBoth(t *testing.T) {
	list := good("k")
	for _, a := range list {
		for _, b := range list {
			both, e := msg.Then(a, b)
			if e != api.OK || !msg.Is(both) {
				t.Fatalf("Then(%#v, %#v) is %#v, %d", a, b, both, e)
			}
			for _, val := range vals() {
				for _, has := range []bool{false, true} {
					v, is := applyByWords(a, val, has)
					v, is = applyByWords(b, v, is)
					wantApply(t, both, val, has, v, is)
				}
			}
		}
	}
}

// P8.4: of three it doesn't matter which two are put together first.
func TestThenOfThree(t *testing.T) {
	list := good("k")
	must := func(a, b api.Msg) api.Msg {
		m, e := msg.Then(a, b)
		if e != api.OK {
			t.Fatalf("Then(%#v, %#v): %d", a, b, e)
		}
		return m
	}
	for _, a := range list {
		for _, b := range list {
			ab := must(a, b)
			for _, c := range list {
				if first, last := must(ab, c), must(a, must(b, c)); first != last {
					t.Fatalf("%#v, %#v, %#v: %#v and %#v", a, b, c, first, last)
				}
			}
		}
	}
}

// P8.3: messages' bytes, behind all that stood there.
func TestWrite(t *testing.T) {
	for _, c := range []struct {
		list []api.Msg
		want string
	}{
		{nil, ""}, {[]api.Msg{}, ""},
		{[]api.Msg{msg.OfPut("ab", "c")}, "\x01\x02ab\x01c"}, {[]api.Msg{msg.OfPut("k", "")}, "\x01\x01k\x00"}, {[]api.Msg{msg.OfDel("d")}, "\x02\x01d\x00"}, {[]api.Msg{msg.OfAdd("k", 258)}, "\x03\x01k\x08\x00\x00\x00\x00\x00\x00\x01\x02"},
		{[]api.Msg{msg.OfPut("abcdefgh", long(16))}, "\x01\x08abcdefgh\x10" + long(16)}, {[]api.Msg{msg.OfPut("\x00", "\xff\x00")}, "\x01\x01\x00\x02\xff\x00"},
		{[]api.Msg{msg.OfPut("ab", "c"), msg.OfDel("d"), msg.OfDel("d"), msg.OfAdd("e", 1)}, "\x01\x02ab\x01c\x02\x01d\x00\x02\x01d\x00\x03\x01e\x08\x00\x00\x00\x00\x00\x00\x00\x01"},
	} {
		var o pen.Out
		o.Raw("ahead")
		if e := msg.Write(&o, c.list...); e != api.OK || o.Bytes() != "ahead"+c.want {
			t.Errorf("Write(%#v): %d, %#v", c.list, e, o.Bytes())
		}
	}
}

// P8.3: a message's bytes are as many as it weighs.
func TestWeightIsBytes(t *testing.T) {
	for _, k := range []string{"k", "abcdefgh"} {
		for _, m := range good(k) {
			var o pen.Out
			if e := msg.Write(&o, m); e != api.OK || o.Bytes() != bytesByWords(m) || o.Len() != msg.Weight(m) {
				t.Errorf("Write(%#v): %d, %#v, weight %d", m, e, o.Bytes(), msg.Weight(m))
			}
		}
	}
}

// P8.3: if one can't be, wherever it stands, nothing is written.
func TestWriteWrong(t *testing.T) {
	x, y := msg.OfPut("a", "b"), msg.OfAdd("c", 4)
	var o pen.Out
	o.Raw("ahead")
	for _, m := range wrong() {
		for _, list := range [][]api.Msg{{m}, {m, x}, {x, m}, {x, m, y}, {x, y, x, y, m}, {m, m}} {
			if e := msg.Write(&o, list...); e != api.ErrArg || o.Bytes() != "ahead" {
				t.Fatalf("Write(%#v): %d, %#v", list, e, o.Bytes())
			}
		}
	}
	if e := msg.Write(&o, x, y); e != api.OK || o.Bytes() != "ahead"+bytesByWords(x, y) {
		t.Errorf("%d, %#v", e, o.Bytes())
	}
}

// P8.3, rule 5: ErrNil of a nil Out, ahead of all others; the zero message of a nil In.
func TestNil(t *testing.T) {
	for _, list := range [][]api.Msg{nil, {}, {msg.OfDel("a")}, {{}}, wrong()} {
		if e := msg.Write(nil, list...); e != api.ErrNil {
			t.Errorf("Write(nil, %#v): %d", list, e)
		}
	}
	var in *pen.In
	for range 2 {
		if m := msg.Read(in); m != (api.Msg{}) || in.Err() != api.ErrNil {
			t.Errorf("Read(nil) is %#v, %d", m, in.Err())
		}
	}
}

// P8.3: the message whose bytes come next, and what stands behind them is left.
func TestRead(t *testing.T) {
	for _, m := range slices.Concat(good("k"), good("abcdefgh"), good("\x00")) {
		for _, rest := range []string{"", "\x00", "\x01", "\xff\xff\xff", rawBytes(4, "a", ""), bytesByWords(m)} {
			in := pen.Of(bytesByWords(m) + rest)
			if got := msg.Read(in); got != m || in.Err() != api.OK || in.Left() != len(rest) {
				t.Fatalf("%#v is read as %#v, %d, %d bytes left", m, got, in.Err(), in.Left())
			}
			if got := in.Raw(len(rest)); got != rest || in.End() != api.OK {
				t.Fatalf("%#v behind %#v, %d", got, m, in.End())
			}
		}
	}
}

// P8.3: a message among numbers and texts.
func TestReadAmong(t *testing.T) {
	in := pen.Of("\x01\x02" + bytesByWords(msg.OfDel("d")) + "\x02ab" + bytesByWords(msg.OfAdd("e", 9)))
	n, a, s, b := in.Num(2), msg.Read(in), in.Text(2), msg.Read(in)
	if n != 258 || a != msg.OfDel("d") || s != "ab" || b != msg.OfAdd("e", 9) || in.End() != api.OK {
		t.Error(n, a, s, b, in.End())
	}
}

// P8.3: bytes that end ahead of a message's end, at each place, alone and behind a message that is read.
func TestReadShort(t *testing.T) {
	first := msg.OfPut("first", "one")
	for _, m := range slices.Concat(good("k"), good("abcdefgh")) {
		whole := bytesByWords(m)
		for n := range len(whole) {
			in := pen.Of(whole[:n])
			if got := msg.Read(in); got != (api.Msg{}) {
				t.Fatalf("%#v is read as %#v", whole[:n], got)
			}
			wantDone(t, in)
			in = pen.Of(bytesByWords(first) + whole[:n])
			if a, b := msg.Read(in), msg.Read(in); a != first || b != (api.Msg{}) {
				t.Fatalf("%#v, %#v", a, b)
			}
			wantDone(t, in)
		}
	}
}

// P8.3: bytes whose kind, key or value can't be are wrong, however good what stands behind them is.
func TestReadWrong(t *testing.T) {
	list := []string{
		rawBytes(0, "k", ""), rawBytes(4, "k", ""), rawBytes(5, "k", number(1)), rawBytes(128, "k", ""), rawBytes(129, "k", ""), rawBytes(255, "k", ""), rawBytes('1', "k", ""),
		rawBytes(1, "", "v"), rawBytes(1, "abcdefghi", "v"), rawBytes(1, "k", long(17)), rawBytes(1, long(255), "v"), rawBytes(1, "k", long(255)),
		rawBytes(2, "", ""), rawBytes(2, "abcdefghi", ""), rawBytes(2, "k", "x"), rawBytes(2, "k", "\x00"), rawBytes(2, "k", number(0)), rawBytes(2, "k", long(16)),
		rawBytes(3, "", number(1)), rawBytes(3, "abcdefghi", number(1)), rawBytes(3, "k", ""), rawBytes(3, "k", long(7)), rawBytes(3, "k", long(9)), rawBytes(3, "k", long(16)), rawBytes(3, "k", long(17)),
		"", "\x00", "\xff\xff\xff\xff",
	}
	behind := bytesByWords(msg.OfPut("next", "one"), msg.OfDel("d"))
	for _, s := range list {
		for _, ahead := range []string{"", bytesByWords(msg.OfDel("d"))} {
			for _, rest := range []string{"", "\x00", behind} {
				if s == "" && rest == behind {
					continue
				}
				in := pen.Of(ahead + s + rest)
				if ahead != "" && msg.Read(in) != msg.OfDel("d") {
					t.Fatal("the message ahead isn't read")
				}
				if got := msg.Read(in); got != (api.Msg{}) {
					t.Fatalf("%#v is read as %#v", s, got)
				}
				wantDone(t, in)
			}
		}
	}
}

// P8.3: a Read behind something else that was wrong.
func TestReadBehindWrong(t *testing.T) {
	in := pen.Of(bytesByWords(msg.OfDel("d")))
	in.Num(3)
	if got := msg.Read(in); got != (api.Msg{}) {
		t.Errorf("%#v is read", got)
	}
	wantDone(t, in)
}

// P8.3: Read and Write agree on each kind's byte, and on the lengths of key and value, whatever they are.
func TestReadOfAllForms(t *testing.T) {
	for kind := range 256 {
		for _, k := range []int{0, 1, 7, 8, 9, 255} {
			for _, v := range []int{0, 1, 7, 8, 9, 15, 16, 17, 255} {
				m := api.Msg{Kind: kind, Key: long(k), Val: long(v)}
				in := pen.Of(rawBytes(byte(kind), m.Key, m.Val))
				got := msg.Read(in)
				if isByWords(m) && (got != m || in.End() != api.OK) || !isByWords(m) && (got != (api.Msg{}) || in.End() != api.ErrForm) {
					t.Fatalf("%#v is read as %#v, %d", m, got, in.End())
				}
			}
		}
	}
}

// P8.4: what was written, in one call or in several, is read as it was.
func TestWrittenIsRead(t *testing.T) {
	list := slices.Concat(good("k"), good("abcdefgh"), good("\xff"))
	rnd := rand.New(rand.NewSource(2))
	for range 500 {
		var o pen.Out
		var all []api.Msg
		for range rnd.Intn(5) {
			row := make([]api.Msg, rnd.Intn(6))
			for i := range row {
				row[i] = list[rnd.Intn(len(list))]
			}
			if e := msg.Write(&o, row...); e != api.OK {
				t.Fatalf("Write(%#v): %d", row, e)
			}
			all = append(all, row...)
		}
		in := pen.Of(o.Bytes())
		for _, m := range all {
			if got := msg.Read(in); got != m {
				t.Fatalf("%#v is read as %#v", m, got)
			}
		}
		if in.End() != api.OK {
			t.Fatalf("%#v: %d", o.Bytes(), in.End())
		}
	}
}

// Rule 3: a list that is handed in is neither changed nor kept, its spare room neither.
func TestMemory(t *testing.T) {
	list := append(make([]api.Msg, 0, 4), msg.OfPut("b", "x"), msg.OfDel("a"))
	var o pen.Out
	msg.Write(&o, list...)
	want := o.Bytes()
	room := list[:4]
	if !slices.Equal(room, []api.Msg{msg.OfPut("b", "x"), msg.OfDel("a"), {}, {}}) {
		t.Errorf("the list is %#v", room)
	}
	list[0] = msg.OfDel("z")
	if o.Bytes() != want || want != bytesByWords(msg.OfPut("b", "x"), msg.OfDel("a")) {
		t.Errorf("%#v, want %#v", o.Bytes(), want)
	}
}

// Long lists are written and read to their end.
func TestManyMessages(t *testing.T) {
	const many = 100000
	list := make([]api.Msg, many)
	for i := range list {
		list[i] = msg.OfAdd(number(uint64(i)), uint64(i))
	}
	var o pen.Out
	if e := msg.Write(&o, list...); e != api.OK || o.Len() != 19*many {
		t.Fatalf("%d, %d bytes", e, o.Len())
	}
	if e := msg.Write(&o, append(slices.Clone(list), api.Msg{})...); e != api.ErrArg || o.Len() != 19*many {
		t.Fatalf("%d, %d bytes", e, o.Len())
	}
	in := pen.Of(o.Bytes())
	for _, m := range list {
		if got := msg.Read(in); got != m {
			t.Fatalf("%#v is read as %#v", m, got)
		}
	}
	if in.End() != api.OK {
		t.Error(in.End())
	}
}

// FuzzAnyMessages holds all calls against the words of the chapter, at any messages.
func FuzzAnyMessages(f *testing.F) {
	f.Add(1, "k", number(5), 3, "k", number(7), "x", true)
	f.Add(3, "k", number(1<<64-1), 3, "k", number(7), "", false)
	f.Add(2, "abcdefghi", "", 256, "", "x", long(8), true)
	f.Fuzz(func(t *testing.T, kindA int, keyA, valA string, kindB int, keyB, valB, val string, has bool) {
		a, b := api.Msg{Kind: kindA, Key: keyA, Val: valA}, api.Msg{Kind: kindB, Key: keyB, Val: valB}
		v, is := applyByWords(a, val, has)
		wantApply(t, a, val, has, v, is)
		if msg.Is(a) != isByWords(a) || msg.Weight(a) != 3+len(keyA)+len(valA) {
			t.Errorf("Is(%#v) is %v, the weight %d", a, msg.Is(a), msg.Weight(a))
		}
		v, is = applyByWords(b, v, is)
		both, e := msg.Then(a, b)
		if ok := isByWords(a) && isByWords(b) && keyA == keyB; ok != (e == api.OK) || !ok && (e != api.ErrArg || both != api.Msg{}) {
			t.Errorf("Then(%#v, %#v) is %#v, %d", a, b, both, e)
		} else if ok {
			wantApply(t, both, val, has, v, is)
		}
		var o pen.Out
		if ok := isByWords(a) && isByWords(b); ok != (msg.Write(&o, a, b) == api.OK) || ok && o.Bytes() != bytesByWords(a, b) || !ok && o.Len() > 0 {
			t.Errorf("Write(%#v, %#v): %#v", a, b, o.Bytes())
		}
	})
}

// FuzzRead reads messages of any bytes: what was read is what the bytes that were taken are.
func FuzzRead(f *testing.F) {
	f.Add(bytesByWords(msg.OfPut("ab", "c"), msg.OfDel("d"), msg.OfAdd("e", 7)))
	f.Add("\x02\x01d")
	f.Add("\x04\x01a\x00")
	f.Fuzz(func(t *testing.T, s string) {
		in := pen.Of(s)
		for in.Left() > 0 {
			left := in.Left()
			m := msg.Read(in)
			if in.Err() != api.OK {
				if m != (api.Msg{}) {
					t.Errorf("%#v of %#v", m, s)
				}
				wantDone(t, in)
				return
			}
			from, to := len(s)-left, len(s)-in.Left()
			if !isByWords(m) || bytesByWords(m) != s[from:to] {
				t.Errorf("%#v is read as %#v", s[from:to], m)
			}
		}
	})
}
