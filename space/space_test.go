package space_test

import (
	"math"
	"math/rand"
	"slices"
	"strings"
	"testing"

	"granger/api"
	"granger/space"
)

// place is blocks side by side.
func place(from, size int) api.Extent {
	return api.Extent{From: from, Size: size}
}

// drawn is a space as it is drawn: a sign for each block, + of a free one, and . of another.
func drawn(t *testing.T, picture string) *space.Space {
	t.Helper()
	s := space.New(len(picture))
	for at, sign := range picture {
		if sign == '+' {
			wantErr(t, "Give", s.Give(place(at, 1)), api.OK)
		}
	}
	wantPicture(t, s, picture)
	return s
}

// placesOf is the free places of a picture, as its rows of signs + are told by their ends.
func placesOf(picture string) []api.Extent {
	var row []api.Extent
	for at, part := 0, ""; at < len(picture); at += len(part) + 1 {
		part, _, _ = strings.Cut(picture[at:], ".")
		if part != "" {
			row = append(row, place(at, len(part)))
		}
	}
	return row
}

// textOf is the Text of a picture, as the chapter says where the bit of a block is.
func textOf(picture string) string {
	b := make([]byte, (len(picture)+7)/8)
	for k, sign := range picture {
		if sign == '+' {
			b[k/8] += byte(128 / int(math.Pow(2, float64(k%8))))
		}
	}
	return string(b)
}

// wantPicture holds all that can be asked of a space against what is drawn.
func wantPicture(t *testing.T, s *space.Space, picture string) {
	t.Helper()
	for at, sign := range picture {
		if s.Has(at) != (sign == '+') {
			t.Errorf("%s: Has(%d) is %t", picture, at, s.Has(at))
		}
	}
	for _, at := range []int{-1, len(picture), len(picture) + 1, math.MinInt, math.MaxInt} {
		if s.Has(at) {
			t.Errorf("%s: Has(%d)", picture, at)
		}
	}
	if s.Len() != len(picture) || s.Free() != strings.Count(picture, "+") {
		t.Errorf("%s: Len %d, Free %d", picture, s.Len(), s.Free())
	}
	want, largest := placesOf(picture), 0
	for _, x := range want {
		largest = max(largest, x.Size)
	}
	if got := s.Row(); !slices.Equal(got, want) || s.Largest() != largest {
		t.Errorf("%s: Row %v, Largest %d, want %v, %d", picture, got, s.Largest(), want, largest)
	}
	if got := s.Text(); got != textOf(picture) {
		t.Errorf("%s: Text %q, want %q", picture, got, textOf(picture))
	}
}

func wantErr(t *testing.T, what string, got, want api.Errno) {
	t.Helper()
	if got != want {
		t.Errorf("%s: error %d, want %d", what, got, want)
	}
}

func wantTake(t *testing.T, s *space.Space, size int, want api.Extent, wantErr api.Errno) {
	t.Helper()
	if got, e := s.Take(size); got != want || e != wantErr {
		t.Errorf("Take(%d): %v, error %d, want %v, %d", size, got, e, want, wantErr)
	}
}

// wantNoTake holds that beside an error there is no place.
func wantNoTake(t *testing.T, s *space.Space, size int, want api.Errno) {
	t.Helper()
	wantTake(t, s, size, api.Extent{}, want)
}

// wantParse holds what Parse says of a picture's Text.
func wantParse(t *testing.T, picture string) {
	t.Helper()
	s, e := space.Parse(len(picture), textOf(picture))
	if e != api.OK || s == nil {
		t.Fatalf("Parse of %s: error %d", picture, e)
	}
	wantPicture(t, s, picture)
}

func wantNoParse(t *testing.T, n int, text string, want api.Errno) {
	t.Helper()
	if s, e := space.Parse(n, text); s != nil || e != want {
		t.Errorf("Parse(%d, %q): a space is %t, error %d, want %d", n, text, s != nil, e, want)
	}
}

// P5.1: how many blocks there may be, and that none is free.
func TestNew(t *testing.T) {
	for _, n := range []int{1, 2, 7, 8, 9, 64, 511, 512} {
		s := space.New(n)
		if s == nil {
			t.Fatalf("New(%d) is nil", n)
		}
		wantPicture(t, s, strings.Repeat(".", n))
	}
	for _, n := range []int{0, -1, -8, 513, 1 << 20, 1 << 32, 1<<32 + 1, math.MaxInt, math.MinInt} {
		if space.New(n) != nil {
			t.Errorf("New(%d) isn't nil", n)
		}
	}
}

// P5.1: places are given and taken, one or more at once, in any order.
func TestGiveAndTakeAt(t *testing.T) {
	s := space.New(12)
	wantErr(t, "Give", s.Give(place(2, 3)), api.OK)
	wantPicture(t, s, "..+++.......")
	wantErr(t, "Give", s.Give(place(10, 2), place(0, 1), place(6, 2)), api.OK)
	wantPicture(t, s, "+.+++.++..++")
	wantErr(t, "TakeAt", s.TakeAt(place(3, 1)), api.OK)
	wantPicture(t, s, "+.+.+.++..++")
	wantErr(t, "TakeAt", s.TakeAt(place(7, 1), place(11, 1), place(0, 1), place(4, 1)), api.OK)
	wantPicture(t, s, "..+...+...+.")
	wantErr(t, "Give", s.Give(place(11, 1), place(7, 3), place(0, 2), place(3, 3)), api.OK)
	wantPicture(t, s, "++++++++++++")
	wantErr(t, "TakeAt", s.TakeAt(place(0, 12)), api.OK)
	wantPicture(t, s, "............")
}

// P5.1: places side by side in one list are no block twice.
func TestPlacesSideBySide(t *testing.T) {
	s := space.New(6)
	wantErr(t, "Give", s.Give(place(2, 2), place(0, 2), place(4, 2)), api.OK)
	wantPicture(t, s, "++++++")
	wantErr(t, "TakeAt", s.TakeAt(place(3, 1), place(4, 1), place(2, 1), place(1, 1)), api.OK)
	wantPicture(t, s, "+....+")
}

// P5.1: of an empty list nothing can be wrong, and nothing is changed.
func TestEmptyList(t *testing.T) {
	for _, picture := range []string{".", "+", "+.+", "+++", "..."} {
		s := drawn(t, picture)
		wantErr(t, "Give()", s.Give(), api.OK)
		wantErr(t, "TakeAt()", s.TakeAt(), api.OK)
		wantErr(t, "Give of nothing", s.Give([]api.Extent{}...), api.OK)
		wantErr(t, "TakeAt of nothing", s.TakeAt([]api.Extent{}...), api.OK)
		wantPicture(t, s, picture)
	}
}

// P5.1: which places can be, at the ends of the blocks, and with the greatest and the least numbers.
func TestWhichPlacesCanBe(t *testing.T) {
	numbers := []int{math.MinInt, math.MinInt + 1, math.MinInt32, -513, -2, -1, 0, 1, 2, 3, 9, 10, 11, 12, 512, 513, math.MaxInt32, 1 << 32, math.MaxInt - 10, math.MaxInt - 1, math.MaxInt}
	can := 0
	for _, from := range numbers {
		for _, size := range numbers {
			none, all := drawn(t, ".........."), drawn(t, "++++++++++")
			if 0 <= from && from < 10 && 1 <= size && size <= 10 && from+size <= 10 {
				can++
				some := strings.Repeat(".", from) + strings.Repeat("+", size) + strings.Repeat(".", 10-from-size)
				wantErr(t, "Give", none.Give(place(from, size)), api.OK)
				wantPicture(t, none, some)
				wantErr(t, "TakeAt", none.TakeAt(place(from, size)), api.OK)
				wantPicture(t, none, "..........")
				continue
			}
			for _, s := range []*space.Space{none, all} {
				before := s.Text()
				wantErr(t, "Give", s.Give(place(from, size)), api.ErrRange)
				wantErr(t, "TakeAt", s.TakeAt(place(from, size)), api.ErrRange)
				if s.Text() != before {
					t.Errorf("place of %d from %d on: %q, it was %q", size, from, s.Text(), before)
				}
			}
		}
	}
	if can != 5+4+3+3+1 {
		t.Errorf("%d places can be", can)
	}
}

// P5.1: a place that ends at n, and ones that end behind it, of each size that a space can have.
func TestPlaceThatEndsAtTheEnd(t *testing.T) {
	for n := 1; n <= 512; n++ {
		s := space.New(n)
		wantErr(t, "Give behind the end", s.Give(place(0, n+1)), api.ErrRange)
		wantErr(t, "Give behind the end", s.Give(place(n-1, 2)), api.ErrRange)
		wantErr(t, "Give at the end", s.Give(place(n, 1)), api.ErrRange)
		wantErr(t, "Give of no block at the end", s.Give(place(n, 0)), api.ErrRange)
		wantErr(t, "Give of the last", s.Give(place(n-1, 1)), api.OK)
		wantErr(t, "TakeAt behind the end", s.TakeAt(place(n-1, 2)), api.ErrRange)
		wantErr(t, "TakeAt at the end", s.TakeAt(place(n, 1)), api.ErrRange)
		wantErr(t, "TakeAt of the last", s.TakeAt(place(n-1, 1)), api.OK)
		wantErr(t, "Give of all", s.Give(place(0, n)), api.OK)
		if s.Free() != n {
			t.Fatalf("%d of %d are free", s.Free(), n)
		}
	}
}

// P5.1: a block that stands in the list twice, whole places alike or ones that share one block.
func TestBlockTwice(t *testing.T) {
	lists := [][]api.Extent{
		{place(3, 1), place(3, 1)},
		{place(2, 3), place(2, 3)},
		{place(0, 4), place(3, 1)},
		{place(3, 1), place(0, 4)},
		{place(0, 4), place(3, 4)},
		{place(3, 4), place(0, 4)},
		{place(0, 8), place(4, 1)},
		{place(0, 2), place(6, 2), place(1, 1)},
		{place(5, 1), place(0, 1), place(5, 1), place(0, 1)},
	}
	for _, list := range lists {
		s := drawn(t, "........")
		wantErr(t, "Give", s.Give(list...), api.ErrState)
		wantPicture(t, s, "........")
		s = drawn(t, "++++++++")
		wantErr(t, "TakeAt", s.TakeAt(list...), api.ErrState)
		wantPicture(t, s, "++++++++")
	}
}

// P5.1: a place whose one block alone is free can't be given; one whose one block alone isn't can't be taken.
func TestOneBlockAlone(t *testing.T) {
	for one := range 9 {
		free := strings.Repeat(".", one) + "+" + strings.Repeat(".", 8-one)
		used := strings.Repeat("+", one) + "." + strings.Repeat("+", 8-one)
		for from := 0; from <= one; from++ {
			for end := one + 1; end <= 9; end++ {
				s := drawn(t, free)
				wantErr(t, "Give", s.Give(place(from, end-from)), api.ErrState)
				wantPicture(t, s, free)
				s = drawn(t, used)
				wantErr(t, "TakeAt", s.TakeAt(place(from, end-from)), api.ErrState)
				wantPicture(t, s, used)
			}
		}
	}
}

// P5.1: nothing is changed by the places of a list ahead of the one that is wrong, nor by those behind it.
func TestNothingIsChanged(t *testing.T) {
	s := drawn(t, "..+++...")
	for _, wrong := range []api.Extent{place(8, 1), place(-1, 1), place(0, 0)} {
		wantErr(t, "Give", s.Give(place(0, 2), wrong, place(6, 1)), api.ErrRange)
		wantErr(t, "TakeAt", s.TakeAt(place(2, 1), wrong, place(4, 1)), api.ErrRange)
		wantPicture(t, s, "..+++...")
	}
	wantErr(t, "Give", s.Give(place(0, 2), place(4, 1), place(6, 1)), api.ErrState)
	wantErr(t, "TakeAt", s.TakeAt(place(2, 1), place(5, 1), place(4, 1)), api.ErrState)
	wantPicture(t, s, "..+++...")
}

// P5.1: of two things that are wrong ErrRange is told, wherever it stands in the list.
func TestWhichErrorIsFirst(t *testing.T) {
	s := drawn(t, "++..")
	for _, wrong := range []api.Extent{place(4, 1), place(3, 2), place(-1, 1), place(0, 0), place(1, -1), place(math.MaxInt, math.MaxInt)} {
		for _, list := range [][]api.Extent{
			{place(0, 1), wrong}, {wrong, place(0, 1)}, {place(3, 1), place(3, 1), wrong}, {wrong, place(3, 1), place(3, 1)}, {wrong, wrong},
		} {
			wantErr(t, "Give", s.Give(list...), api.ErrRange)
		}
		for _, list := range [][]api.Extent{
			{place(2, 1), wrong}, {wrong, place(2, 1)}, {place(0, 1), place(0, 1), wrong}, {wrong, place(0, 1), place(0, 1)}, {wrong, wrong},
		} {
			wantErr(t, "TakeAt", s.TakeAt(list...), api.ErrRange)
		}
		wantPicture(t, s, "++..")
	}
	wantErr(t, "Give of a free one, twice", s.Give(place(0, 1), place(0, 1)), api.ErrState)
	wantErr(t, "TakeAt of a used one, twice", s.TakeAt(place(2, 1), place(2, 1)), api.ErrState)
	wantPicture(t, s, "++..")
}

// P5.2: the chapter's example, whichever of both places is the lower.
func TestTakeOfTheSmaller(t *testing.T) {
	s := drawn(t, "+++..++.")
	wantTake(t, s, 2, place(5, 2), api.OK)
	wantPicture(t, s, "+++.....")
	s = drawn(t, ".++..+++")
	wantTake(t, s, 2, place(1, 2), api.OK)
	wantPicture(t, s, ".....+++")
}

// P5.2: the smallest place that has them may have more; the first blocks of it are taken.
func TestTakeOfAPart(t *testing.T) {
	s := drawn(t, "+.+++++.+++.++++")
	wantTake(t, s, 2, place(8, 2), api.OK)
	wantPicture(t, s, "+.+++++...+.++++")
	wantTake(t, s, 2, place(12, 2), api.OK)
	wantPicture(t, s, "+.+++++...+...++")
	wantTake(t, s, 1, place(0, 1), api.OK)
	wantTake(t, s, 1, place(10, 1), api.OK)
	wantTake(t, s, 1, place(14, 1), api.OK)
	wantTake(t, s, 3, place(2, 3), api.OK)
	wantPicture(t, s, ".....++........+")
}

// P5.2: of places of the same size the lowest one.
func TestTakeOfTheLowest(t *testing.T) {
	s := drawn(t, "++++.++.++.++")
	wantTake(t, s, 1, place(5, 1), api.OK)
	wantPicture(t, s, "++++..+.++.++")
	wantTake(t, s, 2, place(8, 2), api.OK)
	wantTake(t, s, 2, place(11, 2), api.OK)
	wantTake(t, s, 2, place(0, 2), api.OK)
	wantTake(t, s, 2, place(2, 2), api.OK)
	wantPicture(t, s, "......+......")
}

// P5.2: sizes that can't be, that of the greatest place, and one more; what is refused has changed nothing.
func TestTakeSizes(t *testing.T) {
	for _, picture := range []string{".", "+", "++", "+.+", "....", "++++", "+++.++++.++", ".++."} {
		s := drawn(t, picture)
		for _, size := range []int{0, -1, -2, math.MinInt32, math.MinInt} {
			wantNoTake(t, s, size, api.ErrArg)
		}
		largest := s.Largest()
		for _, size := range []int{largest + 1, largest + 2, len(picture) + 1, 513, 1 << 32, math.MaxInt - 1, math.MaxInt} {
			wantNoTake(t, s, size, api.ErrSpace)
		}
		wantPicture(t, s, picture)
	}
	s := drawn(t, "+++.++++.++")
	wantTake(t, s, 4, place(4, 4), api.OK)
	wantNoTake(t, s, 4, api.ErrSpace)
	wantPicture(t, s, "+++......++")
}

// P5.2: as many blocks may be free as are asked, but not side by side.
func TestTakeOfParts(t *testing.T) {
	s := drawn(t, "++.++.++")
	wantNoTake(t, s, 3, api.ErrSpace)
	wantPicture(t, s, "++.++.++")
	wantErr(t, "Give", s.Give(place(5, 1)), api.OK)
	wantTake(t, s, 3, place(3, 3), api.OK)
	wantPicture(t, s, "++....++")
}

// P5.2: all blocks at once, and all one by one, to the most that there can be.
func TestTakeAll(t *testing.T) {
	for _, n := range []int{1, 2, 8, 9, 511, 512} {
		s := space.New(n)
		wantNoTake(t, s, 1, api.ErrSpace)
		s.Give(place(0, n))
		wantNoTake(t, s, n+1, api.ErrSpace)
		wantTake(t, s, n, place(0, n), api.OK)
		wantPicture(t, s, strings.Repeat(".", n))
		s.Give(place(0, n))
		for at := range n {
			wantTake(t, s, 1, place(at, 1), api.OK)
		}
		wantNoTake(t, s, 1, api.ErrSpace)
	}
}

// P5.3: what is told of spaces with free blocks at their ends, between, everywhere and nowhere.
func TestWhatIsTold(t *testing.T) {
	s := drawn(t, "+..++.+++....+++")
	if s.Has(1) || !s.Has(0) || !s.Has(15) || s.Has(16) || s.Has(-1) || s.Has(math.MinInt) || s.Has(math.MaxInt) {
		t.Error("Has")
	}
	if s.Free() != 9 || s.Len() != 16 || s.Largest() != 3 {
		t.Errorf("Free %d, Len %d, Largest %d", s.Free(), s.Len(), s.Largest())
	}
	if got := s.Row(); !slices.Equal(got, []api.Extent{place(0, 1), place(3, 2), place(6, 3), place(13, 3)}) {
		t.Errorf("Row %v", got)
	}
	s = drawn(t, ".....")
	if len(s.Row()) != 0 || s.Largest() != 0 || s.Free() != 0 || s.Len() != 5 {
		t.Errorf("Row %v, Largest %d, Free %d, Len %d", s.Row(), s.Largest(), s.Free(), s.Len())
	}
	s = drawn(t, "+++++")
	if !slices.Equal(s.Row(), []api.Extent{place(0, 5)}) || s.Largest() != 5 || s.Free() != 5 {
		t.Errorf("Row %v, Largest %d, Free %d", s.Row(), s.Largest(), s.Free())
	}
}

// P5.3: the same are those of as many blocks with the same ones free, in whichever way they came to that.
func TestSame(t *testing.T) {
	pictures := []string{".", "+", "..", "+.", ".+", "++", "+.+", "+..", "++++++++", "++++++++.", ".......", "........", ".........", "........+"}
	for i, a := range pictures {
		for j, b := range pictures {
			if space.Same(drawn(t, a), drawn(t, b)) != (i == j) {
				t.Errorf("Same of %s and %s is %t", a, b, i != j)
			}
		}
		s := drawn(t, a)
		if !space.Same(s, s) || space.Same(s, nil) || space.Same(nil, s) {
			t.Errorf("Same of %s", a)
		}
	}
	if !space.Same(nil, nil) {
		t.Error("nil isn't the same as nil")
	}
	a, b := drawn(t, "....."), drawn(t, "+++++")
	a.Give(place(2, 3))
	b.Take(2)
	if !space.Same(a, b) {
		t.Errorf("%v and %v aren't the same", a.Row(), b.Row())
	}
	b.Take(1)
	if space.Same(a, b) {
		t.Errorf("%v and %v are the same", a.Row(), b.Row())
	}
}

// P5.4: each byte of some Texts, written out; of n that 8 divides, and of ones that it doesn't.
func TestText(t *testing.T) {
	for _, c := range []struct{ picture, want string }{
		{".", "\x00"}, {"+", "\x80"}, {".+", "\x40"}, {"++", "\xc0"},
		{".......", "\x00"}, {"+++++++", "\xfe"}, {"......+", "\x02"},
		{"........", "\x00"}, {"++++++++", "\xff"}, {".......+", "\x01"}, {"+.+..+.+", "\xa5"},
		{".........", "\x00\x00"}, {"+++++++++", "\xff\x80"}, {"........+", "\x00\x80"}, {".......++", "\x01\x80"},
		{"...............+", "\x00\x01"}, {"++..............", "\xc0\x00"},
		{"+...............+", "\x80\x00\x80"},
	} {
		if got := drawn(t, c.picture).Text(); got != c.want {
			t.Errorf("%s: %q, want %q", c.picture, got, c.want)
		}
		s, e := space.Parse(len(c.picture), c.want)
		if e != api.OK || s == nil {
			t.Fatalf("Parse(%d, %q): error %d", len(c.picture), c.want, e)
		}
		wantPicture(t, s, c.picture)
	}
}

// P5.4: the way there and back, with each n, and some blocks free.
func TestThereAndBack(t *testing.T) {
	for n := 1; n <= 512; n++ {
		for seed := range 3 {
			picture := anyPicture(rand.New(rand.NewSource(int64(3*n+seed))), n)
			wantParse(t, picture)
		}
		wantParse(t, strings.Repeat("+", n))
		wantParse(t, strings.Repeat(".", n))
	}
}

// anyPicture is one of n blocks, with few of them free, or many.
func anyPicture(r *rand.Rand, n int) string {
	b := make([]byte, n)
	many := r.Intn(100)
	for i := range b {
		b[i] = '.'
		if r.Intn(100) < many {
			b[i] = '+'
		}
	}
	return string(b)
}

// P5.4: a space that was parsed goes on as one that was given its blocks does.
func TestParsedGoesOn(t *testing.T) {
	s, e := space.Parse(11, textOf("+++..++.+.+"))
	wantErr(t, "Parse", e, api.OK)
	wantTake(t, s, 2, place(5, 2), api.OK)
	wantErr(t, "Give", s.Give(place(3, 1), place(9, 1)), api.OK)
	wantPicture(t, s, "++++....+++")
	wantErr(t, "TakeAt", s.TakeAt(place(1, 2), place(8, 3)), api.OK)
	wantPicture(t, s, "+..+.......")
}

// P5.4: a Text of another length is none.
func TestParseLengths(t *testing.T) {
	for n := 1; n <= 512; n++ {
		text := strings.Repeat("\x00", (n+7)/8)
		wantNoParse(t, n, text[1:], api.ErrForm)
		wantNoParse(t, n, text+"\x00", api.ErrForm)
		wantNoParse(t, n, text+"\xff", api.ErrForm)
		wantNoParse(t, n, "", api.ErrForm)
	}
	wantNoParse(t, 9, "\xff", api.ErrForm)
	wantNoParse(t, 8, "\xff\x80", api.ErrForm)
	wantNoParse(t, 8, strings.Repeat("\x00", 1<<16), api.ErrForm)
}

// P5.4: a bit that is set behind the last block.
func TestParseBitsBehindTheLastBlock(t *testing.T) {
	for n := 1; n <= 512; n++ {
		for k := n; k%8 != 0; k++ {
			for _, picture := range []string{strings.Repeat(".", n), strings.Repeat("+", n)} {
				b := []byte(textOf(picture))
				b[k/8] |= 128 >> (k % 8)
				wantNoParse(t, n, string(b), api.ErrForm)
			}
		}
	}
}

// P5.4: each byte that there is as the last one of a Text.
func TestParseEachByte(t *testing.T) {
	for n := 1; n <= 16; n++ {
		for last := range 256 {
			text := strings.Repeat("\xa5", (n-1)/8) + string([]byte{byte(last)})
			s, e := space.Parse(n, text)
			isText := last%(1<<((8-n%8)%8)) == 0
			if isText && (e != api.OK || s.Text() != text || s.Len() != n) {
				t.Errorf("Parse(%d, %q): error %d, Text %q, Len %d", n, text, e, s.Text(), s.Len())
			}
			if !isText {
				wantNoParse(t, n, text, api.ErrForm)
			}
		}
	}
}

// P5.4: there is no space of n: that is told ahead of a wrong Text, and with any Text.
func TestParseOfNoSpace(t *testing.T) {
	for _, n := range []int{0, -1, -8, 513, 520, 1 << 20, math.MaxInt - 7, math.MaxInt, math.MinInt} {
		for _, text := range []string{"", "\x00", "\xff", strings.Repeat("\x00", 64), strings.Repeat("\x00", 65), strings.Repeat("\xff", 66)} {
			wantNoParse(t, n, text, api.ErrArg)
		}
	}
}

// P5.5: places grow together, on the left, on the right, on both sides; and not where a block is between them.
func TestGrowTogether(t *testing.T) {
	for _, c := range []struct {
		before string
		given  api.Extent
		behind string
	}{
		{"..++....", place(1, 1), ".+++...."},
		{"..++....", place(4, 2), "..++++.."},
		{"++..++..", place(2, 2), "++++++.."},
		{"+..+....", place(1, 1), "++.+...."},
		{"+..+....", place(2, 1), "+.++...."},
		{"+...+...", place(2, 1), "+.+.+..."},
		{".++++++.", place(0, 1), "+++++++."},
		{".++++++.", place(7, 1), ".+++++++"},
		{"+.+.+.+.", place(3, 1), "+.+++.+."},
	} {
		s := drawn(t, c.before)
		wantErr(t, "Give", s.Give(c.given), api.OK)
		wantPicture(t, s, c.behind)
		wantErr(t, "TakeAt", s.TakeAt(c.given), api.OK)
		wantPicture(t, s, c.before)
	}
}

// P5.5: what grew together is taken as one place.
func TestTakeOfWhatGrew(t *testing.T) {
	s := drawn(t, "++.++...")
	wantNoTake(t, s, 5, api.ErrSpace)
	wantErr(t, "Give", s.Give(place(2, 1)), api.OK)
	wantTake(t, s, 5, place(0, 5), api.OK)
	wantErr(t, "Give", s.Give(place(5, 3), place(2, 1)), api.OK)
	wantErr(t, "Give", s.Give(place(3, 2)), api.OK)
	wantTake(t, s, 6, place(2, 6), api.OK)
	wantPicture(t, s, "........")
}

// P5.5: each block has an owner from when it is taken to when it is given; no block has two.
func TestOwners(t *testing.T) {
	for seed := range 200 {
		r := rand.New(rand.NewSource(int64(seed)))
		n := 1 + r.Intn(40)
		s := space.New(n)
		s.Give(place(0, n))
		owned := make([]bool, n)
		var owners []api.Extent
		for range 100 {
			x, e := s.Take(1 + r.Intn(6))
			if e == api.OK {
				owners = append(owners, x)
				mark(t, owned, x, true)
			}
			if len(owners) > 0 && (e != api.OK || r.Intn(3) == 0) {
				i := r.Intn(len(owners))
				wantErr(t, "Give", s.Give(owners[i]), api.OK)
				mark(t, owned, owners[i], false)
				owners = slices.Delete(owners, i, i+1)
			}
			for at, is := range owned {
				if s.Has(at) == is {
					t.Fatalf("block %d: owned and free are both %t", at, is)
				}
			}
			apart(t, s.Row())
		}
	}
}

// mark sets whether blocks are owned, and holds that none was already as it is set.
func mark(t *testing.T, owned []bool, x api.Extent, is bool) {
	t.Helper()
	for at := x.From; at < x.From+x.Size; at++ {
		if owned[at] == is {
			t.Fatalf("block %d: owned is %t already", at, is)
		}
		owned[at] = is
	}
}

// apart holds that between free places there is a block at least.
func apart(t *testing.T, row []api.Extent) {
	t.Helper()
	for i := 1; i < len(row); i++ {
		if row[i].From <= row[i-1].From+row[i-1].Size {
			t.Fatalf("%v touches, or isn't behind, %v", row[i], row[i-1])
		}
	}
}

// Rule 5: a nil space.
func TestNil(t *testing.T) {
	var s *space.Space
	for _, list := range [][]api.Extent{nil, {}, {place(0, 1)}, {place(-1, 0)}, {place(0, 1), place(0, 1)}} {
		wantErr(t, "Give", s.Give(list...), api.ErrNil)
		wantErr(t, "TakeAt", s.TakeAt(list...), api.ErrNil)
	}
	for _, n := range []int{math.MinInt, -1, 0, 1, 512, math.MaxInt} {
		wantNoTake(t, s, n, api.ErrNil)
		if s.Has(n) {
			t.Errorf("Has(%d) of nil", n)
		}
	}
	if s.Free() != 0 || s.Len() != 0 || len(s.Row()) != 0 || s.Largest() != 0 || s.Text() != "" {
		t.Errorf("nil: Free %d, Len %d, Row %v, Largest %d, Text %q", s.Free(), s.Len(), s.Row(), s.Largest(), s.Text())
	}
}

// Rule 3: what is handed in is neither changed nor kept, nor is its spare room; what is answered is new.
func TestMemory(t *testing.T) {
	s := space.New(8)
	whole := []api.Extent{place(4, 2), place(0, 1), place(7, 7), place(7, 7)}
	wantErr(t, "Give", s.Give(whole[:2]...), api.OK)
	wantErr(t, "Give again", s.Give(whole[:2]...), api.ErrState)
	wantErr(t, "Give of all", s.Give(whole...), api.ErrRange)
	if !slices.Equal(whole, []api.Extent{place(4, 2), place(0, 1), place(7, 7), place(7, 7)}) {
		t.Errorf("the list is %v", whole)
	}
	whole[0], whole[1] = place(6, 1), place(6, 1)
	wantPicture(t, s, "+...++..")
	row := s.Row()
	other := s.Row()
	clear(row)
	_ = append(row[:0], place(2, 2))
	if !slices.Equal(other, []api.Extent{place(0, 1), place(4, 2)}) {
		t.Errorf("the other Row is %v", other)
	}
	wantPicture(t, s, "+...++..")
	s.Take(1)
	if !slices.Equal(other, []api.Extent{place(0, 1), place(4, 2)}) {
		t.Errorf("the other Row is %v behind a Take", other)
	}
}

// Rule 4: spaces know nothing of each other.
func TestSpacesAreApart(t *testing.T) {
	a, b := drawn(t, "++.."), drawn(t, "++..")
	a.Take(2)
	wantPicture(t, b, "++..")
	b.Give(place(3, 1))
	wantPicture(t, a, "....")
	c, _ := space.Parse(4, b.Text())
	c.TakeAt(place(0, 1))
	wantPicture(t, b, "++.+")
	wantPicture(t, c, ".+.+")
}

// byWords is a space as the chapter's words tell it: for each block a sign of its picture, and its calls in the plainest way.
type byWords []byte

// count is how often each block stands in a list; false, if a place can't be.
func (w byWords) count(list []api.Extent) ([]int, bool) {
	times := make([]int, len(w))
	for _, x := range list {
		if x.From < 0 || x.From >= len(w) || x.Size < 1 || x.Size > len(w) || x.From+x.Size > len(w) {
			return nil, false
		}
		for at := range x.Size {
			times[x.From+at]++
		}
	}
	return times, true
}

// turn is Give (of signs that are .) and TakeAt (of ones that are +).
func (w byWords) turn(from, to byte, list []api.Extent) api.Errno {
	times, ok := w.count(list)
	if !ok {
		return api.ErrRange
	}
	for at, n := range times {
		if n > 1 || n == 1 && w[at] != from {
			return api.ErrState
		}
	}
	for at, n := range times {
		if n == 1 {
			w[at] = to
		}
	}
	return api.OK
}

// take is Take: the places are put in order by their sizes, and then by where they are.
func (w byWords) take(size int) (api.Extent, api.Errno) {
	if size < 1 {
		return api.Extent{}, api.ErrArg
	}
	row := slices.DeleteFunc(placesOf(string(w)), func(x api.Extent) bool { return x.Size < size })
	if len(row) == 0 {
		return api.Extent{}, api.ErrSpace
	}
	slices.SortFunc(row, func(a, b api.Extent) int { return (a.Size-b.Size)*1000 + a.From - b.From })
	x := place(row[0].From, size)
	for at := range size {
		w[x.From+at] = '.'
	}
	return x, api.OK
}

// P5.1, P5.2, P5.4: each space of up to 7 blocks, with each place that can be, each size, and its Text.
func TestEachSmallSpace(t *testing.T) {
	for n := 1; n <= 7; n++ {
		for mask := range 1 << n {
			b := make([]byte, n)
			for i := range b {
				b[i] = ".+"[mask>>i&1]
			}
			picture := string(b)
			wantParse(t, picture)
			for from := -1; from <= n; from++ {
				for size := -1; size <= n+1; size++ {
					holdCalls(t, picture, from, size)
				}
			}
		}
	}
}

// holdCalls holds a Give, a TakeAt and a Take of a space that is drawn against the words.
func holdCalls(t *testing.T, picture string, from, size int) {
	t.Helper()
	s, w := drawn(t, picture), byWords(picture)
	wantErr(t, "Give", s.Give(place(from, size)), w.turn('.', '+', []api.Extent{place(from, size)}))
	wantPicture(t, s, string(w))
	s, w = drawn(t, picture), byWords(picture)
	wantErr(t, "TakeAt", s.TakeAt(place(from, size)), w.turn('+', '.', []api.Extent{place(from, size)}))
	wantPicture(t, s, string(w))
	s, w = drawn(t, picture), byWords(picture)
	x, e := w.take(size)
	wantTake(t, s, size, x, e)
	wantPicture(t, s, string(w))
}

// someInt is mostly one around the blocks of a space, and seldom one of the ends.
func someInt(r *rand.Rand, n int) int {
	if r.Intn(60) == 0 {
		return []int{math.MinInt, math.MaxInt, math.MinInt + 1, math.MaxInt - 1, math.MaxInt - n, 1 << 32, 1 << 31}[r.Intn(7)]
	}
	return r.Intn(n+2) - 1
}

// someList is places of which most can be.
func someList(r *rand.Rand, n int) []api.Extent {
	list := make([]api.Extent, r.Intn(4))
	for i := range list {
		list[i] = place(someInt(r, n), 1+r.Intn(3))
		if r.Intn(20) == 0 {
			list[i].Size = someInt(r, n)
		}
	}
	return list
}

// holdRow holds a space against the words, through so many calls.
func holdRow(t *testing.T, r *rand.Rand, n, calls int) {
	t.Helper()
	s, w := space.New(n), byWords(strings.Repeat(".", n))
	for range calls {
		switch r.Intn(3) {
		case 0:
			list := someList(r, n)
			wantErr(t, "Give", s.Give(list...), w.turn('.', '+', list))
		case 1:
			list := someList(r, n)
			wantErr(t, "TakeAt", s.TakeAt(list...), w.turn('+', '.', list))
		default:
			size := someInt(r, min(n, 5))
			x, e := w.take(size)
			wantTake(t, s, size, x, e)
		}
		wantPicture(t, s, string(w))
		if t.Failed() {
			return
		}
	}
}

// P1, P5.1 to P5.5: rows of any calls.
func TestAnyCalls(t *testing.T) {
	for seed := range 300 {
		r := rand.New(rand.NewSource(int64(seed)))
		holdRow(t, r, 1+r.Intn(24), 200)
	}
	for seed := range 10 {
		holdRow(t, rand.New(rand.NewSource(int64(seed))), 512-seed, 300)
	}
}

func FuzzAnyCalls(f *testing.F) {
	f.Add(int64(1), 1)
	f.Add(int64(2), 8)
	f.Add(int64(3), 512)
	f.Fuzz(func(t *testing.T, seed int64, n int) {
		if n < 1 || n > 512 {
			return
		}
		holdRow(t, rand.New(rand.NewSource(seed)), n, 100)
	})
}

func FuzzParse(f *testing.F) {
	f.Add(20, "\x1f\xff\xc0")
	f.Add(20, "\x1f\xff\xc1")
	f.Add(8, "")
	f.Fuzz(func(t *testing.T, n int, text string) {
		s, e := space.Parse(n, text)
		switch {
		case n < 1 || n > 512:
			wantNoParse(t, n, text, api.ErrArg)
		case len(text) != (n+7)/8 || n%8 != 0 && text[len(text)-1]<<(n%8) != 0:
			wantNoParse(t, n, text, api.ErrForm)
		case e != api.OK || s.Text() != text || s.Len() != n:
			t.Errorf("Parse(%d, %q): error %d, Text %q", n, text, e, s.Text())
		}
	})
}
