package pen_test

import (
	"math"
	"slices"
	"strings"
	"testing"

	"granger/api"
	"granger/pen"
)

// wrongWidths can't be a number's, the ends of the type among them.
var wrongWidths = []int{math.MinInt, -8, -1, 0, 3, 5, 6, 7, 9, 16, 64, math.MaxInt}

// greatest is the greatest number of each width.
var greatest = []struct{ width, most int }{{1, 1<<8 - 1}, {2, 1<<16 - 1}, {4, 1<<32 - 1}, {8, math.MaxInt64}}

func text(n int) string { return strings.Repeat("x", n) }

func wantOut(t *testing.T, o *pen.Out, want string) {
	t.Helper()
	if o.Bytes() != want || o.Len() != len(want) {
		t.Errorf("%q of %d bytes, want %q", o.Bytes(), o.Len(), want)
	}
}

func wantErr(t *testing.T, got, want api.Errno) {
	t.Helper()
	if got != want {
		t.Errorf("error %d, want %d", got, want)
	}
}

// P1.1: an empty Out.
func TestEmptyOut(t *testing.T) {
	var o pen.Out
	wantOut(t, &o, "")
	wantErr(t, o.Num(4), api.OK)
	wantErr(t, o.Text(), api.OK)
	o.Raw("")
	wantOut(t, &o, "")
	wantErr(t, new(pen.Out).Num(3), api.ErrArg)
}

// P1.1: numbers, the highest byte first, each width's least and greatest.
func TestOutNum(t *testing.T) {
	for _, c := range []struct {
		width int
		list  []int
		want  string
	}{
		{1, []int{0}, "\x00"},
		{1, []int{255}, "\xff"},
		{2, []int{0}, "\x00\x00"},
		{2, []int{258}, "\x01\x02"},
		{2, []int{65535}, "\xff\xff"},
		{4, []int{0}, "\x00\x00\x00\x00"},
		{4, []int{0x01020304}, "\x01\x02\x03\x04"},
		{4, []int{1<<32 - 1}, "\xff\xff\xff\xff"},
		{8, []int{0}, "\x00\x00\x00\x00\x00\x00\x00\x00"},
		{8, []int{0x0102030405060708}, "\x01\x02\x03\x04\x05\x06\x07\x08"},
		{8, []int{math.MaxInt64}, "\x7f\xff\xff\xff\xff\xff\xff\xff"},
		{1, []int{1, 2, 3}, "\x01\x02\x03"},
		{2, []int{258, 0, 1}, "\x01\x02\x00\x00\x00\x01"},
		{1, nil, ""},
	} {
		var o pen.Out
		o.Raw("ahead")
		wantErr(t, o.Num(c.width, c.list...), api.OK)
		wantOut(t, &o, "ahead"+c.want)
	}
}

// P1.1: what can't be is ErrArg, and nothing of the call is written.
func TestOutNumWrong(t *testing.T) {
	var o pen.Out
	o.Raw("ahead")
	for _, width := range wrongWidths {
		wantErr(t, o.Num(width, 1), api.ErrArg)
		wantErr(t, o.Num(width), api.ErrArg)
	}
	for _, g := range greatest {
		wantErr(t, o.Num(g.width, -1), api.ErrArg)
		wantErr(t, o.Num(g.width, math.MinInt), api.ErrArg)
		wantErr(t, o.Num(g.width, 1, -1), api.ErrArg)
		wantErr(t, o.Num(g.width, 1, -1, 2), api.ErrArg)
		if g.width < 8 {
			wantErr(t, o.Num(g.width, g.most+1), api.ErrArg)
			wantErr(t, o.Num(g.width, g.most, g.most+1), api.ErrArg)
			wantErr(t, o.Num(g.width, math.MaxInt), api.ErrArg)
		}
	}
	wantOut(t, &o, "ahead")
	wantErr(t, o.Num(1, 'b'), api.OK)
	wantOut(t, &o, "aheadb")
}

// P1.1: texts behind their lengths, of 255 bytes at most.
func TestOutText(t *testing.T) {
	var o pen.Out
	wantErr(t, o.Text("ab", "", "\x00\xff"), api.OK)
	want := "\x02ab\x00\x02\x00\xff"
	wantOut(t, &o, want)
	for _, list := range [][]string{{text(256)}, {"a", text(256)}, {text(256), "a"}, {"a", text(300), "b"}, {text(1 << 16)}} {
		wantErr(t, o.Text(list...), api.ErrArg)
		wantOut(t, &o, want)
	}
	wantErr(t, o.Text(text(255)), api.OK)
	wantOut(t, &o, want+"\xff"+text(255))
}

// P1.1: bytes as they are, behind all that stood there.
func TestOutRaw(t *testing.T) {
	var o pen.Out
	o.Num(1, 1)
	o.Raw(text(256))
	o.Raw("\x00\xff")
	wantOut(t, &o, "\x01"+text(256)+"\x00\xff")
}

// Rule 3: what is handed in isn't changed, and what was answered doesn't change later.
func TestOutKeepsApart(t *testing.T) {
	var o pen.Out
	list := append(make([]int, 0, 8), 1, 2)
	texts := append(make([]string, 0, 8), "a", "b")
	o.Num(1, list...)
	o.Text(texts...)
	early := o.Bytes()
	if !slices.Equal(list[:3], []int{1, 2, 0}) || !slices.Equal(texts[:3], []string{"a", "b", ""}) {
		t.Error("the lists were changed", list[:3], texts[:3])
	}
	list[0], texts[0] = 9, "z"
	o.Raw("more")
	if early != "\x01\x02\x01a\x01b" {
		t.Errorf("an early answer became %q", early)
	}
	wantOut(t, &o, "\x01\x02\x01a\x01bmore")
}

// P1.1, P1.3: nil objects; ErrNil stands ahead of what can't be.
func TestNil(t *testing.T) {
	var o *pen.Out
	for _, width := range append([]int{1, 2, 4, 8}, wrongWidths...) {
		wantErr(t, o.Num(width, -1), api.ErrNil)
		wantErr(t, o.Num(width, 1), api.ErrNil)
	}
	wantErr(t, o.Text("a"), api.ErrNil)
	wantErr(t, o.Text(text(256)), api.ErrNil)
	o.Raw("a")
	wantOut(t, o, "")

	var in *pen.In
	for _, n := range append([]int{1, 2, 4, 8}, wrongWidths...) {
		if in.Num(n) != 0 || in.Text(n) != "" || in.Raw(n) != "" || in.Left() != 0 {
			t.Error("a nil In has something", n)
		}
	}
	wantErr(t, in.Err(), api.ErrNil)
	wantErr(t, in.End(), api.ErrNil)
}

func wantLeft(t *testing.T, in *pen.In, left int) {
	t.Helper()
	if in.Left() != left {
		t.Errorf("%d bytes left, want %d", in.Left(), left)
	}
	wantErr(t, in.Err(), api.OK)
}

// P1.2: each thing is read where the last one ended.
func TestIn(t *testing.T) {
	in := pen.Of("\x01\x02\x03\x00\x00\x01\x00\x00\x00\x00\x00\x00\x00\x01\xff\x02abcde\x00")
	wantLeft(t, in, 22)
	if n := in.Num(1); n != 1 {
		t.Error(n)
	}
	if n := in.Num(2); n != 0x0203 {
		t.Error(n)
	}
	if n := in.Num(4); n != 0x00000100 {
		t.Error(n)
	}
	wantLeft(t, in, 15)
	if n := in.Num(8); n != 0x01ff {
		t.Error(n)
	}
	if s := in.Text(2); s != "ab" {
		t.Error(s)
	}
	if s := in.Raw(0); s != "" {
		t.Error(s)
	}
	if s := in.Raw(3); s != "cde" {
		t.Error(s)
	}
	wantLeft(t, in, 1)
	wantErr(t, in.End(), api.ErrForm)
	wantLeft(t, in, 1)
	if s := in.Text(0); s != "" {
		t.Error(s)
	}
	wantLeft(t, in, 0)
	wantErr(t, in.End(), api.OK)
}

// P1.2: the edges at which a thing is still right.
func TestInEdges(t *testing.T) {
	for _, g := range greatest {
		least := pen.Of(strings.Repeat("\x00", g.width))
		if n := least.Num(g.width); n != 0 || least.End() != api.OK {
			t.Error(g.width, n)
		}
	}
	in := pen.Of("\xff\xff\xff\xff\xff\xff\xff\x7f\xff\xff\xff\xff\xff\xff\xff")
	for _, g := range greatest {
		if n := in.Num(g.width); n != g.most {
			t.Error(g.width, n)
		}
	}
	wantErr(t, in.End(), api.OK)
	for _, most := range []int{255, 256, math.MaxInt} {
		in := pen.Of("\xff" + text(255))
		if s := in.Text(most); s != text(255) || in.End() != api.OK {
			t.Error(most, s)
		}
	}
	empty := pen.Of("")
	if empty.Left() != 0 || empty.Raw(0) != "" || empty.End() != api.OK {
		t.Error(empty.Left(), empty.End())
	}
}

// wantDone asks for all that a reader behind a wrong thing must answer.
func wantDone(t *testing.T, what string, in *pen.In) {
	t.Helper()
	for range 2 {
		if in.Err() != api.ErrForm || in.End() != api.ErrForm || in.Left() != 0 {
			t.Error(what, "goes on:", in.Err(), in.End(), in.Left())
		}
		if in.Num(1) != 0 || in.Num(8) != 0 || in.Num(3) != 0 || in.Text(9) != "" || in.Text(-1) != "" || in.Raw(0) != "" || in.Raw(1) != "" || in.Raw(-1) != "" {
			t.Error(what, "still answers")
		}
	}
}

// P1.2: numbers that aren't all there, are too great, or of widths that can't be.
func TestInNumWrong(t *testing.T) {
	for _, g := range greatest {
		for size := range g.width {
			in := pen.Of(text(size))
			if n := in.Num(g.width); n != 0 {
				t.Error(g.width, size, n)
			}
			wantDone(t, "a short number", in)
		}
	}
	for _, width := range wrongWidths {
		in := pen.Of(text(100))
		if n := in.Num(width); n != 0 {
			t.Error(width, n)
		}
		wantDone(t, "a wrong width", in)
	}
	for _, s := range []string{"\x80\x00\x00\x00\x00\x00\x00\x00", "\xff\xff\xff\xff\xff\xff\xff\xff"} {
		in := pen.Of(s + "more")
		if n := in.Num(8); n != 0 {
			t.Error(n)
		}
		wantDone(t, "a number above 2^63 - 1", in)
	}
}

// P1.2: texts that aren't all there, or are longer than most.
func TestInTextWrong(t *testing.T) {
	for _, c := range []struct {
		s    string
		most int
	}{
		{"", 9},
		{"\x01", 9},
		{"\x03ab", 9},
		{"\xff" + text(254), math.MaxInt},
		{"\x02abc", 1},
		{"\x02abc", 0},
		{"\xff" + text(256), 254},
		{"\x00more", -1},
		{"\x01more", -1},
		{"\x00more", math.MinInt},
	} {
		in := pen.Of(c.s)
		if s := in.Text(c.most); s != "" {
			t.Errorf("%q at most %d: %q", c.s, c.most, s)
		}
		wantDone(t, "a wrong text", in)
	}
}

// P1.2: bytes that aren't all there, or fewer than none.
func TestInRawWrong(t *testing.T) {
	for _, n := range []int{4, 5, 1 << 40, math.MaxInt, -1, -3, math.MinInt} {
		in := pen.Of("abc")
		if s := in.Raw(n); s != "" {
			t.Error(n, s)
		}
		wantDone(t, "wrong bytes", in)
	}
}

// P1.2: a wrong thing ends the reading though right ones were ahead of it and are behind it.
func TestInDoneInTheMiddle(t *testing.T) {
	in := pen.Of("\x05\x02ab\x01c\x07\x07\x07\x07")
	if in.Num(1) != 5 || in.Text(2) != "ab" || in.Err() != api.OK {
		t.Error("the things ahead")
	}
	if s := in.Text(0); s != "" {
		t.Error(s)
	}
	wantDone(t, "the middle", in)
}

// P1.3: bytes that are left are ErrForm of End alone, and may still be read.
func TestInEnd(t *testing.T) {
	in := pen.Of("ab")
	for left := 2; left > 0; left-- {
		wantLeft(t, in, left)
		wantErr(t, in.End(), api.ErrForm)
		wantLeft(t, in, left)
		in.Raw(1)
	}
	wantLeft(t, in, 0)
	wantErr(t, in.End(), api.OK)
}

// numbers of a width: its edges, and those around each power of two.
func numbers(width, most int) []int {
	list := []int{0, most - 1, most}
	for bit := range 8*width - 1 {
		n := 1 << bit
		list = append(list, n-1, n, n+n/3)
	}
	slices.Sort(list)
	return slices.Compact(list)
}

// P1.4: what was written is read as it was.
func TestRoundTrip(t *testing.T) {
	var o pen.Out
	for _, g := range greatest {
		wantErr(t, o.Num(g.width, numbers(g.width, g.most)...), api.OK)
		for size := range 256 {
			wantErr(t, o.Text(text(size)), api.OK)
			o.Raw(string(rune(size)))
		}
	}
	in := pen.Of(o.Bytes())
	for _, g := range greatest {
		for _, n := range numbers(g.width, g.most) {
			if got := in.Num(g.width); got != n {
				t.Fatalf("%d of width %d came back as %d", n, g.width, got)
			}
		}
		for size := range 256 {
			raw := string(rune(size))
			if s := in.Text(size); s != text(size) {
				t.Fatalf("a text of %d bytes came back as %q", size, s)
			}
			if s := in.Raw(len(raw)); s != raw {
				t.Fatalf("%q came back as %q", raw, s)
			}
		}
	}
	wantErr(t, in.End(), api.OK)
}

// P1.4: numbers of one width stand in order as their bytes do.
func TestOrder(t *testing.T) {
	for _, g := range greatest {
		last := ""
		for _, n := range numbers(g.width, g.most) {
			var o pen.Out
			wantErr(t, o.Num(g.width, n), api.OK)
			if o.Len() != g.width || o.Bytes() <= last && last != "" {
				t.Errorf("%q of %d isn't above %q", o.Bytes(), n, last)
			}
			last = o.Bytes()
		}
	}
}

// P1: whatever is read in whatever way, nothing panics, and no answer is more than there is.
func FuzzIn(f *testing.F) {
	f.Add("\x02ab\x80\x00\x00\x00\x00\x00\x00\x00", "\x00\x08", 1)
	f.Add("", "\x01\x02\x03", -1)
	f.Add(text(300), "\x02\x01\x00\x04\x08", math.MaxInt)
	f.Fuzz(func(t *testing.T, s, calls string, n int) {
		in := pen.Of(s)
		for _, c := range []byte(calls) {
			before, wrong := in.Left(), in.Err()
			size, zero := 0, true
			switch c % 4 {
			case 0:
				zero = in.Num(int(c/4)) == 0
			case 1:
				zero = in.Num(n) == 0
			case 2:
				got := in.Text(n)
				size, zero = len(got), got == ""
			default:
				got := in.Raw(n)
				size, zero = len(got), got == ""
			}
			if size > before || in.Left() > before || in.Err() != api.OK && (in.Left() != 0 || !zero) || wrong != api.OK && in.Err() == api.OK {
				t.Fatalf("%q %q %d: %d left, error %d", s, calls, n, in.Left(), in.Err())
			}
		}
	})
}
