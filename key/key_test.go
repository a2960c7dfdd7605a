package key_test

import (
	"bytes"
	"encoding/binary"
	"math"
	"math/rand"
	"slices"
	"strings"
	"testing"

	"granger/api"
	"granger/key"
)

// end is a byte 255.
const end = "\xff"

// long is a text of so many bytes.
func long(n int) string {
	return strings.Repeat("x", n)
}

// between is the range from lo on, ahead of hi.
func between(lo, hi string) key.Range {
	return key.Range{Lo: lo, Hi: hi}
}

// compare holds two texts against each other byte by byte, as the chapter's words tell it.
func compare(a, b string) int {
	for i := range min(len(a), len(b)) {
		if a[i] != b[i] {
			if a[i] < b[i] {
				return -1
			}
			return 1
		}
	}
	switch {
	case len(a) < len(b):
		return -1
	case len(a) > len(b):
		return 1
	}
	return 0
}

// before is the greatest key below k; none, if k is the least one.
func before(k string) string {
	last := len(k) - 1
	if k[last] == 0 {
		return k[:last]
	}
	return k[:last] + string([]byte{k[last] - 1}) + strings.Repeat(end, api.MaxKey-len(k))
}

// keysOf is all keys of the letters, in order.
func keysOf(letters string, most int) []string {
	var list []string
	var add func(head string)
	add = func(head string) {
		if head != "" {
			list = append(list, head)
		}
		if len(head) == most {
			return
		}
		for i := range len(letters) {
			add(head + letters[i:i+1])
		}
	}
	add("")
	return list
}

// texts are such as keys and the ends of ranges may be, or can't be, at the edges that the chapter names.
func texts() []string {
	return []string{
		"", "\x00", "\x00\x00", "\x01", "a", "a\x00", "a\x00b", "a\x01", "aa", "a" + end, "ab", "abc", "abcdefg", "abcdefgh", "abcdefgi", "abcdefghi", "abcdefgh\x00", "abcdefg" + end, "abcdef" + end + end,
		"b", "\x7f", "\x80", "é", "\xfe", "\xfe" + strings.Repeat(end, 7), end, end + "\x00", end + end, strings.Repeat("\x00", 8), strings.Repeat("\x00", 9), strings.Repeat(end, 7), strings.Repeat(end, 8), strings.Repeat(end, 9), strings.Repeat(end, 7) + "\xfe", long(300),
	}
}

// ranges are all those that the texts make.
func ranges() []key.Range {
	var list []key.Range
	for _, lo := range texts() {
		for _, hi := range texts() {
			list = append(list, between(lo, hi))
		}
	}
	return list
}

// P7.1: a key has 1 to 8 bytes, whichever they are.
func TestIs(t *testing.T) {
	for n := range 40 {
		for _, s := range []string{"a", "\x00", end, "\x80"} {
			k := strings.Repeat(s, n)
			if got, want := key.Is(k), n >= 1 && n <= 8; got != want {
				t.Errorf("Is(%q) is %v", k, got)
			}
		}
	}
	if key.Is(long(256)) || key.Is(long(257)) || key.Is(long(1<<16)) || key.Is(long(1<<16+1)) {
		t.Error("a long text is a key")
	}
	// Bytes are counted, not letters.
	if !key.Is("éééé") || key.Is("ééééé") {
		t.Error("letters of two bytes")
	}
}

// P7.1: a value has 0 to 16 bytes, whichever they are.
func TestIsVal(t *testing.T) {
	for n := range 40 {
		for _, s := range []string{"a", "\x00", end, "\x80"} {
			v := strings.Repeat(s, n)
			if got, want := key.IsVal(v), n <= 16; got != want {
				t.Errorf("IsVal(%q) is %v", v, got)
			}
		}
	}
	if key.IsVal(long(256)) || key.IsVal(long(1<<16)) {
		t.Error("a long text is a value")
	}
}

// P7.1: items stand in the order of their keys' bytes, whatever their values are, and whatever they are.
func TestCompare(t *testing.T) {
	for _, a := range texts() {
		for _, b := range texts() {
			want := compare(a, b)
			for _, v := range [][2]string{{"", ""}, {"1", "2"}, {"2", "1"}, {"", long(17)}} {
				if got := key.Compare(api.Item{Key: a, Val: v[0]}, api.Item{Key: b, Val: v[1]}); got != want {
					t.Errorf("Compare of %q and %q is %d, want %d", a, b, got, want)
				}
			}
		}
	}
	for _, c := range []struct {
		a, b string
		want int
	}{
		{"a", "b", -1}, {"b", "a", 1}, {"a", "a", 0}, {"a", "ab", -1}, {"ab", "a", 1}, {"ab", "b", -1}, {"", "\x00", -1}, {"", "", 0},
		{"a", "a\x00", -1}, {"abcdefgh", "abcdefgi", -1}, {"\x7f", "\x80", -1}, {end, "a", 1}, {"Z", "a", -1}, {"a" + end, "b", -1},
	} {
		if got := key.Compare(api.Item{Key: c.a}, api.Item{Key: c.b}); got != c.want {
			t.Errorf("Compare of %q and %q is %d, want %d", c.a, c.b, got, c.want)
		}
	}
}

// P7.1: the weight of an item, of one that can't be too.
func TestWeight(t *testing.T) {
	for _, c := range []struct{ key, val, want int }{
		{0, 0, 2}, {1, 0, 3}, {0, 1, 3}, {1, 1, 4}, {8, 16, 26}, {9, 0, 11}, {0, 17, 19}, {9, 17, 28}, {300, 70000, 70302},
	} {
		if got := key.Weight(api.Item{Key: long(c.key), Val: long(c.val)}); got != c.want {
			t.Errorf("Weight of %d and %d bytes is %d, want %d", c.key, c.val, got, c.want)
		}
	}
	if got := key.Weight(api.Item{Key: "é", Val: end + "\x00"}); got != 6 {
		t.Errorf("Weight is %d", got)
	}
}

// P7.1: a number's value is its 8 bytes, the highest first, and is read as that number.
func TestValue(t *testing.T) {
	for _, c := range []struct {
		n    uint64
		want string
	}{
		{0, "\x00\x00\x00\x00\x00\x00\x00\x00"}, {1, "\x00\x00\x00\x00\x00\x00\x00\x01"}, {258, "\x00\x00\x00\x00\x00\x00\x01\x02"},
		{1<<32 - 1, "\x00\x00\x00\x00\xff\xff\xff\xff"}, {1 << 32, "\x00\x00\x00\x01\x00\x00\x00\x00"},
		{math.MaxInt64, "\x7f\xff\xff\xff\xff\xff\xff\xff"}, {1 << 63, "\x80\x00\x00\x00\x00\x00\x00\x00"},
		{0x6162636465666768, "abcdefgh"}, {math.MaxUint64 - 1, "\xff\xff\xff\xff\xff\xff\xff\xfe"}, {math.MaxUint64, "\xff\xff\xff\xff\xff\xff\xff\xff"},
	} {
		if got := key.Value(c.n); got != c.want {
			t.Errorf("Value(%d) is %q, want %q", c.n, got, c.want)
		}
		if n, ok := key.Number(c.want); n != c.n || !ok {
			t.Errorf("Number(%q) is %d, %v, want %d", c.want, n, ok, c.n)
		}
	}
	rnd := rand.New(rand.NewSource(1))
	for range 2000 {
		n := rnd.Uint64() >> rnd.Intn(64)
		want := string(binary.BigEndian.AppendUint64(nil, n))
		if got := key.Value(n); got != want || !key.IsVal(got) {
			t.Fatalf("Value(%d) is %q", n, got)
		}
		if got, ok := key.Number(want); got != n || !ok {
			t.Fatalf("Number(%q) is %d, %v", want, got, ok)
		}
	}
}

// P7.1: what hasn't 8 bytes is no number's value.
func TestNoNumber(t *testing.T) {
	for n := range 300 {
		for _, s := range []string{"\x00", "\x01", end, "1"} {
			v := strings.Repeat(s, n)
			got, ok := key.Number(v)
			if ok != (n == 8) || !ok && got != 0 {
				t.Errorf("Number(%q) is %d, %v", v, got, ok)
			}
		}
	}
}

// P7.2: the least key above one, at the edges that the chapter names; none above the greatest, and of what is no key.
func TestNext(t *testing.T) {
	for _, c := range []struct{ k, want string }{
		{"a", "a\x00"}, {"abcdefgh", "abcdefgi"}, {"\x00", "\x00\x00"}, {"abcdefg", "abcdefg\x00"}, {end, end + "\x00"}, {"a" + end, "a" + end + "\x00"},
		{strings.Repeat(end, 7), strings.Repeat(end, 7) + "\x00"}, {strings.Repeat("\x00", 7), strings.Repeat("\x00", 8)}, {strings.Repeat("\x00", 8), strings.Repeat("\x00", 7) + "\x01"},
		{"abcdefg" + end, "abcdefh"}, {"abcdef" + end + end, "abcdeg"}, {"abcdef" + end + "h", "abcdef" + end + "i"}, {"a" + strings.Repeat(end, 7), "b"}, {"\x00" + strings.Repeat(end, 7), "\x01"},
		{"\xfe" + strings.Repeat(end, 7), end}, {strings.Repeat(end, 7) + "\xfe", strings.Repeat(end, 8)}, {"abcdefg\x7f", "abcdefg\x80"}, {"abcdefé", "abcdef\xc3\xaa"},
		{strings.Repeat(end, 8), ""}, {"", ""}, {"abcdefghi", ""}, {"abcdefgh\x00", ""}, {strings.Repeat(end, 9), ""}, {long(300), ""},
	} {
		if got, ok := key.Next(c.k); got != c.want || ok != (c.want != "") {
			t.Errorf("Next(%q) is %q, %v, want %q", c.k, got, ok, c.want)
		}
	}
}

// P7.2: between a key and the next one there is none: the greatest one below that is the first again.
func TestNextIsTheLeast(t *testing.T) {
	keys := keysOf("\x00\x01\xfe\xff", 8)
	for i, k := range keys {
		n, ok := key.Next(k)
		if i == len(keys)-1 {
			if ok || n != "" {
				t.Errorf("Next(%q) is %q", k, n)
			}
			continue
		}
		if !ok || !key.Is(n) || compare(n, k) != 1 || compare(n, keys[i+1]) == 1 || before(n) != k {
			t.Fatalf("Next(%q) is %q, %v", k, n, ok)
		}
	}
	// All keys are gone through, from any one on.
	k := "abcdef\xff\x00"
	for range 300 {
		n, ok := key.Next(k)
		if !ok || before(n) != k {
			t.Fatalf("Next(%q) is %q, %v", k, n, ok)
		}
		k = n
	}
}

// P7.2: the shortest beginning of the second key that stands behind the first one.
func TestSep(t *testing.T) {
	for _, c := range []struct{ a, b, want string }{
		{"abc", "abxyz", "abx"}, {"a", "b", "b"}, {"a", "ab", "ab"}, {"a", "abcd", "ab"}, {"abcdefgh", "abcdefgi", "abcdefgi"}, {"aaa", "bbb", "b"}, {"azzzzzzz", "b", "b"}, {"azzzzzzz", "baaaaaaa", "b"},
		{"a", "a\x00", "a\x00"}, {"a", "a\x00\x00", "a\x00"}, {"abcdefg", "abcdefg\x00", "abcdefg\x00"}, {"\x00", end, end}, {"\x00", "\x00\x00", "\x00\x00"}, {"a\x7f", "a\x80b", "a\x80"}, {end, end + end, end + end},
		{"ab", "b", "b"}, {"abcd", "ac", "ac"}, {"abcd", "acbd", "ac"}, {"abc", "abcdefgh", "abcd"}, {"\x01", "\x02\x00", "\x02"}, {"ab\xff", "ac", "ac"},
		{"a", "a", ""}, {"b", "a", ""}, {"ab", "a", ""}, {"abcdefgh", "abcdefgh", ""}, {"", "a", ""}, {"a", "", ""}, {"", "", ""}, {"abcdefghi", "b", ""}, {"a", "abcdefghi", ""}, {"a", "bcdefghij", ""}, {long(9), "y", ""}, {long(300), long(301), ""},
	} {
		if got, ok := key.Sep(c.a, c.b); got != c.want || ok != (c.want != "") {
			t.Errorf("Sep(%q, %q) is %q, %v, want %q", c.a, c.b, got, ok, c.want)
		}
	}
}

// sepByWords tries each beginning of b, the shortest one first.
func sepByWords(a, b string) string {
	if len(a) < 1 || len(a) > 8 || len(b) < 1 || len(b) > 8 || compare(a, b) != -1 {
		return ""
	}
	for n := 0; ; n++ {
		if compare(b[:n], a) == 1 {
			return b[:n]
		}
	}
}

// P7.2: Sep as its words tell it, of any two of many texts.
func TestSepOfAll(t *testing.T) {
	list := append(texts(), keysOf("\x00a\xff", 4)...)
	for _, a := range list {
		for _, b := range list {
			want := sepByWords(a, b)
			if got, ok := key.Sep(a, b); got != want || ok != (want != "") {
				t.Fatalf("Sep(%q, %q) is %q, %v, want %q", a, b, got, ok, want)
			}
		}
	}
}

// P7.3: which ranges can be.
func TestRangeIs(t *testing.T) {
	for _, c := range []struct {
		lo, hi string
		want   bool
	}{
		{"", "", true}, {"a", "", true}, {"", "a", true}, {"", "\x00", true}, {"a", "a", true}, {"a", "a\x00", true}, {"a", "b", true}, {"abcdefgh", "abcdefgi", true}, {"abcdefgh", "", true}, {"", "abcdefgh", true},
		{"b", "a", false}, {"ab", "a", false}, {"a\x00", "a", false}, {"\x00", "", true}, {strings.Repeat(end, 8), "", true}, {strings.Repeat(end, 8), strings.Repeat(end, 8), true}, {strings.Repeat(end, 8), strings.Repeat(end, 7), false},
		{"abcdefghi", "", false}, {"", "abcdefghi", false}, {"abcdefghi", "b", false}, {"a", "abcdefghi", false}, {"abcdefghi", "abcdefghi", false}, {long(300), "", false}, {"", long(300), false}, {"b", "abcdefghi", false},
	} {
		if got := between(c.lo, c.hi).Is(); got != c.want {
			t.Errorf("the range %q %q: Is %v", c.lo, c.hi, got)
		}
	}
}

// P7.3: Is as its words tell it, of all ranges that the texts make.
func TestRangeIsOfAll(t *testing.T) {
	for _, r := range ranges() {
		want := len(r.Lo) <= 8 && len(r.Hi) <= 8 && (len(r.Hi) == 0 || compare(r.Lo, r.Hi) < 1)
		if got := r.Is(); got != want {
			t.Errorf("the range %q: Is %v", r, got)
		}
	}
}

// P7.3: what ranges have, and what no range has.
func TestHas(t *testing.T) {
	for _, c := range []struct {
		lo, hi, k string
		want      bool
	}{
		{"b", "d", "a", false}, {"b", "d", "a" + end, false}, {"b", "d", "b", true}, {"b", "d", "b\x00", true}, {"b", "d", "c", true}, {"b", "d", "c" + strings.Repeat(end, 7), true}, {"b", "d", "d", false}, {"b", "d", "d\x00", false}, {"b", "d", "e", false},
		{"b", "", "a", false}, {"b", "", "b", true}, {"b", "", strings.Repeat(end, 8), true}, {"", "b", "\x00", true}, {"", "b", "a", true}, {"", "b", "b", false}, {"", "", "\x00", true}, {"", "", strings.Repeat(end, 8), true},
		{"b", "b", "b", false}, {"b", "b\x00", "b", true}, {"b", "b\x00", "b\x00", false}, {"b", "b\x00", "bb", false}, {"", "\x00", "\x00", false},
		{"", "", "", false}, {"", "b", "", false}, {"", "", "abcdefghi", false}, {"a", "b", "abcdefghi", false}, {"", "", long(300), false},
		{"d", "b", "c", false}, {"d", "b", "d", false}, {"d", "b", "b", false}, {"d", "b", "e", false}, {"d", "b", "a", false},
		{"abcdefgh\x00", "", "abcdefgh", false}, {"abcdefgh\x00", "", "abcdefgi", true}, {"abcdefgh\x00", "abcdefgi", "abcdefgi", false}, {"a", "abcdefgh\x00", "abcdefgh", true}, {"a", "abcdefgh\x00", "abcdefgi", false},
	} {
		if got := between(c.lo, c.hi).Has(c.k); got != c.want {
			t.Errorf("the range %q %q: Has(%q) is %v", c.lo, c.hi, c.k, got)
		}
	}
}

// hasByWords tells whether the range has k.
func hasByWords(r key.Range, k string) bool {
	return len(k) >= 1 && len(k) <= 8 && compare(k, r.Lo) >= 0 && (len(r.Hi) == 0 || compare(k, r.Hi) == -1)
}

// P7.3: Has as its words tell it, of all ranges that the texts make, those that can't be too.
func TestHasOfAll(t *testing.T) {
	for _, r := range ranges() {
		for _, k := range texts() {
			if got := r.Has(k); got != hasByWords(r, k) {
				t.Fatalf("the range %q: Has(%q) is %v", r, k, got)
			}
		}
	}
}

// P7.3: ranges that have no key, and such that have one alone.
func TestIsEmpty(t *testing.T) {
	greatest := strings.Repeat(end, 8)
	for _, c := range []struct {
		lo, hi string
		want   bool
	}{
		{"", "", false}, {"a", "", false}, {"", "a", false}, {"b", "d", false}, {"b", "b", true}, {"b", "b\x00", false}, {"", "\x00", true}, {"", "\x00\x00", false}, {"\x00", "\x00\x00", false}, {"\x00", "\x00", true}, {"", "\x01", false},
		{"d", "b", true}, {"a\x00", "a", true}, {"abcdefgh", "abcdefgi", false}, {"abcdefgh", "abcdefgh", true}, {"abcdefg", "abcdefgh", false}, {greatest, "", false}, {greatest, greatest, true},
		{"abcdefgh\x00", "", false}, {"abcdefgh\x00", "abcdefgi", true}, {"abcdefgh\x00", "abcdefgi\x00", false}, {"abcdefgh\x00", "abcdefgh\x01", true}, {"abcdefgh", "abcdefgh\x00", false}, {"abcdefgha", "abcdefghb", true}, {"abcdefghb", "abcdefgha", true},
		{"abcdefg" + end + "x", "abcdefh", true}, {"abcdefg" + end + "x", "abcdefh\x00", false}, {greatest + "\x00", "", true}, {greatest + end, greatest + end + end, true}, {greatest, greatest + "\x00", false}, {long(300), "", false}, {long(300), "y", false}, {long(300), "xxxxxxxy", true}, {"", strings.Repeat("\x00", 300), false}, {"abcdefghi", "a", true},
	} {
		if got := between(c.lo, c.hi).IsEmpty(); got != c.want {
			t.Errorf("the range %q %q: IsEmpty %v", c.lo, c.hi, got)
		}
	}
}

// some are keys, of which each range that the texts make has one, if it has any: those from each text on, and ahead of it.
func some() []string {
	list := []string{"\x00"}
	for _, s := range texts() {
		if len(s) > 8 {
			s = s[:8]
		}
		list = append(list, s)
		if n, ok := key.Next(s); ok {
			list = append(list, n)
		}
	}
	return list
}

// P7.3: a range has no key just if none is in it, of all ranges that the texts make.
func TestIsEmptyOfAll(t *testing.T) {
	keys := some()
	for _, r := range ranges() {
		want := !slices.ContainsFunc(keys, func(k string) bool { return hasByWords(r, k) })
		if got := r.IsEmpty(); got != want {
			t.Fatalf("the range %q: IsEmpty %v", r, got)
		}
	}
}

// P7.4: what two ranges have together.
func TestMeet(t *testing.T) {
	for _, c := range []struct{ a, b, want key.Range }{
		{between("b", "d"), between("c", "e"), between("c", "d")}, {between("b", "e"), between("c", "d"), between("c", "d")}, {between("b", "d"), between("b", "d"), between("b", "d")},
		{between("b", "d"), between("d", "e"), between("d", "d")}, {between("b", "c"), between("d", "e"), between("d", "d")}, {between("b", "d"), between("e", ""), between("e", "e")},
		{between("b", ""), between("c", "d"), between("c", "d")}, {between("b", "c"), between("a", ""), between("b", "c")}, {between("b", ""), between("c", ""), between("c", "")}, {between("", ""), between("", ""), between("", "")},
		{between("", ""), between("b", "d"), between("b", "d")}, {between("", "b"), between("", "a"), between("", "a")}, {between("", "b"), between("c", ""), between("c", "c")}, {between("", "a"), between("a", ""), between("a", "a")},
		{between("a", "a"), between("b", "b"), between("b", "b")}, {between("b", "b"), between("a", "c"), between("b", "b")}, {between("d", "b"), between("", ""), between("d", "d")}, {between("d", "b"), between("e", "a"), between("e", "e")}, {between("d", "b"), between("a", "c"), between("d", "d")},
		{between("abcdefghi", ""), between("abc", "b"), between("abcdefghi", "b")}, {between("a", "abcdefghij"), between("", "abcdefghi"), between("a", "abcdefghi")}, {between(long(300), ""), between("", "b"), between(long(300), long(300))},
	} {
		if got := c.a.Meet(c.b); got != c.want {
			t.Errorf("Meet of %q and %q is %q, want %q", c.a, c.b, got, c.want)
		}
		if got := c.b.Meet(c.a); got != c.want {
			t.Errorf("Meet of %q and %q is %q, want %q", c.b, c.a, got, c.want)
		}
	}
}

// meetByWords is the Meet as the chapter's words tell it.
func meetByWords(r, o key.Range) key.Range {
	m := r
	if compare(o.Lo, r.Lo) == 1 {
		m.Lo = o.Lo
	}
	if r.Hi == "" || o.Hi != "" && compare(o.Hi, r.Hi) == -1 {
		m.Hi = o.Hi
	}
	if m.Hi != "" && compare(m.Lo, m.Hi) == 1 {
		m.Hi = m.Lo
	}
	return m
}

// P7.4: Meet as its words tell it, of any two of many ranges; it has a key just if both have it, and can be, if both can be.
func TestMeetOfAll(t *testing.T) {
	list := ranges()
	keys := some()
	rnd := rand.New(rand.NewSource(2))
	for range 20000 {
		a, b := list[rnd.Intn(len(list))], list[rnd.Intn(len(list))]
		got := a.Meet(b)
		if got != meetByWords(a, b) || got != b.Meet(a) {
			t.Fatalf("Meet of %q and %q is %q, want %q", a, b, got, meetByWords(a, b))
		}
		if a.Is() && b.Is() && !got.Is() {
			t.Fatalf("Meet of %q and %q is %q, that can't be", a, b, got)
		}
		for range 10 {
			k := keys[rnd.Intn(len(keys))]
			if got.Has(k) != (a.Has(k) && b.Has(k)) {
				t.Fatalf("Meet of %q and %q is %q, Has(%q)", a, b, got, k)
			}
		}
	}
}

// P7.4: the parts that pivots make of a range.
func TestCut(t *testing.T) {
	r := between("b", "f")
	for _, c := range []struct {
		r      key.Range
		pivots []string
		want   []key.Range
	}{
		{r, nil, []key.Range{r}}, {r, []string{}, []key.Range{r}},
		{r, []string{"d"}, []key.Range{between("b", "d"), between("d", "f")}},
		{r, []string{"c", "d", "e"}, []key.Range{between("b", "c"), between("c", "d"), between("d", "e"), between("e", "f")}},
		{r, []string{"a"}, []key.Range{between("b", "b"), between("b", "f")}}, {r, []string{"g"}, []key.Range{between("b", "f"), between("g", "g")}}, {r, []string{"a", "g"}, []key.Range{between("b", "b"), between("b", "f"), between("g", "g")}},
		{r, []string{"b"}, []key.Range{between("b", "b"), between("b", "f")}}, {r, []string{"f"}, []key.Range{between("b", "f"), between("f", "f")}}, {r, []string{"b", "f"}, []key.Range{between("b", "b"), between("b", "f"), between("f", "f")}},
		{r, []string{"d", "d"}, []key.Range{between("b", "d"), between("d", "d"), between("d", "f")}},
		{r, []string{"e", "c"}, []key.Range{between("b", "e"), between("e", "e"), between("c", "f")}}, {r, []string{"g", "a"}, []key.Range{between("b", "f"), between("g", "g"), between("b", "f")}},
		{r, []string{""}, []key.Range{between("b", "f"), between("b", "f")}}, {r, []string{"d", ""}, []key.Range{between("b", "d"), between("d", "f"), between("b", "f")}}, {r, []string{"", "d"}, []key.Range{between("b", "f"), between("b", "d"), between("d", "f")}}, {r, []string{"", ""}, []key.Range{r, r, r}},
		{between("", ""), []string{"a", "b"}, []key.Range{between("", "a"), between("a", "b"), between("b", "")}}, {between("", ""), []string{""}, []key.Range{between("", ""), between("", "")}}, {between("", ""), []string{"b", "a"}, []key.Range{between("", "b"), between("b", "b"), between("a", "")}},
		{between("c", ""), []string{"a", "d"}, []key.Range{between("c", "c"), between("c", "d"), between("d", "")}}, {between("", "c"), []string{"a", "d"}, []key.Range{between("", "a"), between("a", "c"), between("d", "d")}},
		{between("b", "b"), []string{"b"}, []key.Range{between("b", "b"), between("b", "b")}}, {between("b", "b\x00"), []string{"b", "b\x00"}, []key.Range{between("b", "b"), between("b", "b\x00"), between("b\x00", "b\x00")}},
		{between("d", "b"), nil, []key.Range{between("d", "b")}}, {between("d", "b"), []string{"c"}, []key.Range{between("d", "d"), between("d", "d")}}, {between("abcdefghi", ""), nil, []key.Range{between("abcdefghi", "")}}, {between("abcdefghi", ""), []string{"abcdefghij"}, []key.Range{between("abcdefghi", "abcdefghij"), between("abcdefghij", "")}},
	} {
		if got := c.r.Cut(c.pivots...); !slices.Equal(got, c.want) {
			t.Errorf("Cut of %q by %q is %q, want %q", c.r, c.pivots, got, c.want)
		}
	}
}

// wantCut holds a Cut against the Meet of the parts one by one; and of pivots that rise, none empty, each key against the number of parts that have it.
func wantCut(t *testing.T, r key.Range, pivots, keys []string) {
	t.Helper()
	got := r.Cut(pivots...)
	if len(got) != len(pivots)+1 {
		t.Fatalf("Cut of %q by %q has %d parts", r, pivots, len(got))
	}
	rises := true
	for i, part := range got {
		o := key.Range{}
		if i > 0 {
			o.Lo = pivots[i-1]
			rises = rises && o.Lo != ""
		}
		if i < len(pivots) {
			o.Hi = pivots[i]
			rises = rises && compare(o.Lo, o.Hi) == -1
		}
		if len(pivots) > 0 && part != meetByWords(r, o) || len(pivots) == 0 && part != r {
			t.Fatalf("Cut of %q by %q is %q, at %d", r, pivots, got, i)
		}
	}
	for _, k := range keys {
		n := 0
		for _, part := range got {
			if part.Has(k) {
				n++
			}
		}
		if !r.Has(k) && n != 0 || rises && r.Has(k) && n != 1 {
			t.Fatalf("Cut of %q by %q is %q: %q is in %d parts", r, pivots, got, k, n)
		}
	}
}

// P7.4, P7.5: any pivots, such as rise and such as don't, of any range: each part is the Meet that the words tell, and of those that rise each key of the range is in just one.
func TestCutOfAll(t *testing.T) {
	all, list, keys := ranges(), texts(), some()
	rnd := rand.New(rand.NewSource(3))
	for i := range 6000 {
		pivots := make([]string, rnd.Intn(8))
		for j := range pivots {
			pivots[j] = list[rnd.Intn(len(list))]
		}
		if i%3 > 0 {
			slices.Sort(pivots)
			pivots = slices.Compact(pivots)
		}
		wantCut(t, all[rnd.Intn(len(all))], pivots, keys)
	}
}

// P7.5: each key of a range is in just one part, of all keys of few letters, and of each one as a pivot.
func TestEachKeyInOnePart(t *testing.T) {
	keys := keysOf("\x00a\xff", 3)
	for _, r := range []key.Range{{}, {Lo: "a"}, {Hi: "a"}, {Lo: "\x00a", Hi: "a\xff"}, {Lo: "a", Hi: "a\x00"}, {Lo: "a", Hi: "a"}} {
		wantCut(t, r, keys, keys)
		for _, k := range keys {
			wantCut(t, r, []string{k}, keys)
		}
	}
}

// Rule 3: pivots are neither changed nor kept, their spare room neither; each Cut is new memory.
func TestMemory(t *testing.T) {
	pivots := append(make([]string, 0, 9), "c", "d")
	r := between("b", "f")
	first := r.Cut(pivots...)
	want := slices.Clone(first)
	second := r.Cut(pivots...)
	if room := pivots[:9]; room[0] != "c" || room[1] != "d" || slices.ContainsFunc(room[2:], func(s string) bool { return s != "" }) {
		t.Errorf("the pivots are %q", room)
	}
	pivots[0] = "z"
	for i := range second {
		second[i] = between("x", "y")
	}
	_ = append(second, between("x", "y"))
	if !slices.Equal(first, want) {
		t.Errorf("a Cut has become %q", first)
	}
	alone := r.Cut()
	alone[0].Lo = "x"
	if got := r.Cut(); got[0] != between("b", "f") {
		t.Errorf("a Cut by no pivot has become %q", got)
	}
}

// Long lists of pivots are cut to their end.
func TestManyPivots(t *testing.T) {
	const many = 100000
	pivots := make([]string, many)
	for i := range pivots {
		pivots[i] = key.Value(uint64(i))
	}
	parts := between(key.Value(10), key.Value(20)).Cut(pivots...)
	full := 0
	for _, part := range parts {
		if !part.IsEmpty() {
			full++
		}
	}
	if len(parts) != many+1 || full != 10 {
		t.Errorf("%d parts, %d with keys", len(parts), full)
	}
}

// FuzzAnyTexts holds all calls against the words of the chapter, at any texts.
func FuzzAnyTexts(f *testing.F) {
	f.Add("a", "b", "abc", "abxyz")
	f.Add("", strings.Repeat(end, 8), "abcdefghi", "\x00")
	f.Add("d", "b", "abcdef"+end+end, "")
	f.Fuzz(func(t *testing.T, a, b, c, d string) {
		r, o := between(a, b), between(c, d)
		if key.Is(a) != (len(a) >= 1 && len(a) <= 8) || key.IsVal(a) != (len(a) <= 16) || key.Compare(api.Item{Key: a, Val: c}, api.Item{Key: b, Val: d}) != compare(a, b) {
			t.Errorf("%q and %q", a, b)
		}
		if n, ok := key.Number(a); ok != (len(a) == 8) || ok && key.Value(n) != a || !ok && n != 0 {
			t.Errorf("Number(%q) is %d, %v", a, n, ok)
		}
		if n, ok := key.Next(a); ok != (key.Is(a) && !bytes.Equal([]byte(a), bytes.Repeat([]byte{255}, 8))) || ok && (!key.Is(n) || before(n) != a) || !ok && n != "" {
			t.Errorf("Next(%q) is %q, %v", a, n, ok)
		}
		if s, ok := key.Sep(a, b); s != sepByWords(a, b) || ok != (s != "") {
			t.Errorf("Sep(%q, %q) is %q, %v", a, b, s, ok)
		}
		if r.Has(c) != hasByWords(r, c) || r.IsEmpty() && (r.Has(c) || r.Has(d) || r.Has(a)) || r.Meet(o) != meetByWords(r, o) {
			t.Errorf("the ranges %q and %q", r, o)
		}
		wantCut(t, r, nil, []string{a, b, c, d})
		wantCut(t, r, []string{c}, []string{a, b, c, d})
		wantCut(t, r, []string{c, d}, []string{a, b, c, d})
	})
}
