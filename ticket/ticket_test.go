package ticket_test

import (
	"maps"
	"math"
	"math/rand"
	"slices"
	"strings"
	"testing"

	"granger/api"
	"granger/space"
	"granger/ticket"
)

// ends are numbers of which no block, no ticket and no size is.
var ends = []int{math.MinInt, math.MinInt + 1, math.MinInt32, math.MaxInt32, 1 << 32, 1<<32 + 1, math.MaxInt - 1, math.MaxInt}

// place is blocks side by side.
func place(from, size int) api.Extent {
	return api.Extent{From: from, Size: size}
}

// byWords is a pool as the chapter's words tell it: a sign for each block (. of a used one, - of a late one, + of a free one), what each ticket has, and the calls in the plainest way.
type byWords struct {
	picture string
	reserve int
	tickets map[int]int
}

func newWords(n, from, reserve int) *byWords {
	return &byWords{strings.Repeat(".", from) + strings.Repeat("+", n-from), reserve, map[int]int{}}
}

func (w *byWords) free() int {
	return strings.Count(w.picture, "+")
}

func (w *byWords) held() int {
	sum := 0
	for _, n := range w.tickets {
		sum += n
	}
	return sum
}

func (w *byWords) left() int {
	return w.free() - w.held() - w.reserve
}

// turn makes all blocks of the list, that are as from says, as to says.
func (w *byWords) turn(from, to byte, list []int) api.Errno {
	times := make([]int, len(w.picture))
	for _, at := range list {
		if at < 0 || at >= len(times) {
			return api.ErrRange
		}
		times[at]++
	}
	b := []byte(w.picture)
	for at, n := range times {
		if n > 1 || n == 1 && b[at] != from {
			return api.ErrState
		}
		if n == 1 {
			b[at] = to
		}
	}
	w.picture = string(b)
	return api.OK
}

// use leans on a space, since its errors are those of TakeAt.
func (w *byWords) use(list []api.Extent) api.Errno {
	s := space.New(len(w.picture))
	for at, sign := range w.picture {
		if sign == '+' {
			s.Give(place(at, 1))
		}
	}
	if e := s.TakeAt(list...); e != api.OK {
		return e
	}
	if w.free()-s.Free() > w.left() {
		return api.ErrSpace
	}
	var blocks []int
	for at, sign := range w.picture {
		if sign == '+' && !s.Has(at) {
			blocks = append(blocks, at)
		}
	}
	return w.turn('+', '.', blocks)
}

func (w *byWords) hold(n int) (int, api.Errno) {
	if n < 0 {
		return 0, api.ErrArg
	}
	if n > w.left() {
		return 0, api.ErrSpace
	}
	for id := 1; ; id++ {
		if _, ok := w.tickets[id]; !ok {
			w.tickets[id] = n
			return id, api.OK
		}
	}
}

func (w *byWords) change(id, n int) api.Errno {
	has, ok := w.tickets[id]
	if !ok {
		return api.ErrNone
	}
	if n < 0 {
		return api.ErrArg
	}
	if n > has+w.left() {
		return api.ErrSpace
	}
	w.tickets[id] = n
	return api.OK
}

// draw takes the first block of the smallest row of signs +, the lowest of those.
func (w *byWords) draw(id int) (int, api.Errno) {
	has, ok := w.tickets[id]
	if !ok {
		return 0, api.ErrNone
	}
	if has == 0 {
		return 0, api.ErrState
	}
	best, size := 0, len(w.picture)+1
	for at, part := 0, ""; at < len(w.picture); at += len(part) + 1 {
		part, _, _ = strings.Cut(strings.ReplaceAll(w.picture[at:], "-", "."), ".")
		if part != "" && len(part) < size {
			best, size = at, len(part)
		}
	}
	w.tickets[id]--
	return best, w.turn('+', '.', []int{best})
}

func (w *byWords) drop(id int) api.Errno {
	if _, ok := w.tickets[id]; !ok {
		return api.ErrNone
	}
	delete(w.tickets, id)
	return api.OK
}

func (w *byWords) turnLate() int {
	n := strings.Count(w.picture, "-")
	w.picture = strings.ReplaceAll(w.picture, "-", "+")
	return n
}

// drawn is a pool as it is drawn, without tickets, beside its words.
func drawn(t *testing.T, picture string, reserve int) (*ticket.Pool, *byWords) {
	t.Helper()
	p := ticket.New(len(picture), len(picture), 0)
	if reserve > 0 {
		p = ticket.New(len(picture), 0, reserve)
	}
	for at, sign := range picture {
		if sign == '+' && p.Kind(at) == 1 {
			wantErr(t, "Back", p.Back(at), api.OK)
		}
		if sign != '+' && p.Kind(at) == 3 {
			wantErr(t, "Use", p.Use(place(at, 1)), api.OK)
		}
		if sign == '-' {
			wantErr(t, "Shadow", p.Shadow(at), api.OK)
		}
	}
	w := &byWords{picture, reserve, map[int]int{}}
	wantPool(t, p, w)
	return p, w
}

// wantPool holds all that can be asked of a pool against the words.
func wantPool(t *testing.T, p *ticket.Pool, w *byWords) {
	t.Helper()
	var late []int
	for at, sign := range w.picture {
		if got, want := p.Kind(at), 1+strings.IndexRune(".-+", sign); got != want {
			t.Errorf("%s: Kind(%d) is %d, want %d", w.picture, at, got, want)
		}
		if sign == '-' {
			late = append(late, at)
		}
	}
	for _, at := range append([]int{-1, len(w.picture), len(w.picture) + 1}, ends...) {
		if p.Kind(at) != 0 {
			t.Errorf("%s: Kind(%d) is %d", w.picture, at, p.Kind(at))
		}
	}
	if got := p.Late(); !slices.Equal(got, late) {
		t.Errorf("%s: Late %v", w.picture, got)
	}
	if p.Free() != w.free() || p.Held() != w.held() || p.Left() != w.left() {
		t.Errorf("%s, %v: Free %d, Held %d, Left %d, want %d, %d, %d", w.picture, w.tickets, p.Free(), p.Held(), p.Left(), w.free(), w.held(), w.left())
	}
	if p.Left() < 0 || p.Free() < w.reserve {
		t.Errorf("%s, %v: Left %d, Free %d, with a reserve of %d", w.picture, w.tickets, p.Left(), p.Free(), w.reserve)
	}
	wantTickets(t, p, w.tickets)
}

// wantTickets holds which tickets there are, and what each has.
func wantTickets(t *testing.T, p *ticket.Pool, tickets map[int]int) {
	t.Helper()
	ids := slices.Sorted(maps.Keys(tickets))
	if got := p.Ids(); !slices.Equal(got, ids) {
		t.Errorf("Ids %v, want %v", got, ids)
	}
	most := 0
	if len(ids) > 0 {
		most = ids[len(ids)-1]
	}
	asked := slices.Clone(ends)
	for id := -1; id <= most+2; id++ {
		asked = append(asked, id)
	}
	for _, id := range asked {
		want, wantErr := tickets[id], api.OK
		if _, ok := tickets[id]; !ok {
			wantErr = api.ErrNone
		}
		if got, e := p.Of(id); got != want || e != wantErr {
			t.Errorf("Of(%d): %d, error %d, want %d, %d", id, got, e, want, wantErr)
		}
	}
}

func wantErr(t *testing.T, what string, got, want api.Errno) {
	t.Helper()
	if got != want {
		t.Errorf("%s: error %d, want %d", what, got, want)
	}
}

func wantHold(t *testing.T, p *ticket.Pool, n, want int, wantErr api.Errno) {
	t.Helper()
	if got, e := p.Hold(n); got != want || e != wantErr {
		t.Errorf("Hold(%d): %d, error %d, want %d, %d", n, got, e, want, wantErr)
	}
}

func wantDraw(t *testing.T, p *ticket.Pool, id, want int, wantErr api.Errno) {
	t.Helper()
	if got, e := p.Draw(id); got != want || e != wantErr {
		t.Errorf("Draw(%d): %d, error %d, want %d, %d", id, got, e, want, wantErr)
	}
}

// P6.1: which pools can be, at the ends of all three numbers.
func TestNew(t *testing.T) {
	for _, n := range []int{1, 2, 10, 64, 511, 512} {
		for _, from := range []int{0, 1, n / 2, n - 1, n} {
			for _, reserve := range []int{0, 1, (n - from) / 2, n - from} {
				p := ticket.New(n, from, reserve)
				if reserve > n-from {
					if p != nil {
						t.Errorf("New(%d, %d, %d) isn't nil", n, from, reserve)
					}
					continue
				}
				if p == nil {
					t.Fatalf("New(%d, %d, %d) is nil", n, from, reserve)
				}
				wantPool(t, p, newWords(n, from, reserve))
			}
		}
	}
}

// P6.1: which pools can't be, with one, two or three numbers that are wrong.
func TestNoPool(t *testing.T) {
	for _, c := range [][3]int{
		{0, 0, 0}, {-1, 0, 0}, {-1, -1, 0}, {513, 0, 0}, {513, 513, 0}, {513, 1, 512}, {1024, 512, 0},
		{10, -1, 0}, {10, -1, 2}, {10, -1, 11}, {10, 11, 0}, {10, 11, -1}, {10, 12, -2}, {512, 513, 0},
		{10, 0, -1}, {10, 0, 11}, {10, 4, 7}, {10, 10, 1}, {10, 10, -1}, {1, 0, 2}, {1, 1, 1}, {512, 0, 513},
	} {
		if ticket.New(c[0], c[1], c[2]) != nil {
			t.Errorf("New(%d, %d, %d) isn't nil", c[0], c[1], c[2])
		}
	}
	for _, x := range ends {
		if ticket.New(x, 0, 0) != nil || ticket.New(10, x, 0) != nil || ticket.New(10, 0, x) != nil || ticket.New(10, 10, x) != nil {
			t.Errorf("New of %d isn't nil", x)
		}
		for _, y := range ends {
			if ticket.New(x, y, 0) != nil || ticket.New(10, x, y) != nil || ticket.New(x, 0, y) != nil || ticket.New(x, y, x) != nil {
				t.Errorf("New of %d and %d isn't nil", x, y)
			}
		}
	}
}

// P6.1: each pool that can be, of few blocks, and each that can't be around them.
func TestEachSmallPool(t *testing.T) {
	for n := -1; n <= 6; n++ {
		for from := -1; from <= 7; from++ {
			for reserve := -1; reserve <= 7; reserve++ {
				p := ticket.New(n, from, reserve)
				can := n >= 1 && 0 <= from && from <= n && 0 <= reserve && reserve+from <= n
				if (p != nil) != can {
					t.Fatalf("New(%d, %d, %d): there is one: %t", n, from, reserve, !can)
				}
				if can {
					wantPool(t, p, newWords(n, from, reserve))
				}
			}
		}
	}
}

// P6.1: free blocks are used, one or more places at once, in any order.
func TestUse(t *testing.T) {
	p := ticket.New(12, 2, 1)
	wantErr(t, "Use", p.Use(place(3, 2)), api.OK)
	wantPool(t, p, &byWords{"..+..+++++++", 1, nil})
	wantErr(t, "Use", p.Use(place(10, 2), place(2, 1), place(6, 2)), api.OK)
	wantPool(t, p, &byWords{".....+..++..", 1, nil})
	wantErr(t, "Use", p.Use(place(5, 1), place(8, 1)), api.OK)
	wantPool(t, p, &byWords{".........+..", 1, nil})
}

// P6.1: of an empty list nothing can be wrong, and nothing is changed; with nothing left, too.
func TestUseOfNothing(t *testing.T) {
	for _, reserve := range []int{0, 3, 5} {
		p := ticket.New(8, 3, reserve)
		wantHold(t, p, 5-reserve, 1, api.OK)
		wantErr(t, "Use()", p.Use(), api.OK)
		wantErr(t, "Use of an empty list", p.Use([]api.Extent{}...), api.OK)
		wantPool(t, p, &byWords{"...+++++", reserve, map[int]int{1: 5 - reserve}})
	}
}

// P6.1: as many blocks as are left may be used, and not one more: neither of those that are held, nor of the reserve.
func TestUseOfWhatIsLeft(t *testing.T) {
	for _, c := range []struct{ reserve, held int }{{0, 0}, {3, 0}, {0, 3}, {2, 1}} {
		p, w := ticket.New(10, 1, c.reserve), newWords(10, 1, c.reserve)
		if c.held > 0 {
			wantHold(t, p, c.held, 1, api.OK)
			w.hold(c.held)
		}
		left := 9 - c.reserve - c.held
		if c.reserve+c.held > 0 {
			wantErr(t, "Use of one more", p.Use(place(2, left+1)), api.ErrSpace)
			wantErr(t, "Use of one more, in two places", p.Use(place(9, 1), place(1, left)), api.ErrSpace)
			wantErr(t, "Use of all", p.Use(place(1, 9)), api.ErrSpace)
		}
		wantPool(t, p, w)
		wantErr(t, "Use of what is left", p.Use(place(10-left, left)), api.OK)
		wantErr(t, "by words", w.use([]api.Extent{place(10-left, left)}), api.OK)
		wantPool(t, p, w)
		if c.reserve+c.held > 0 {
			wantErr(t, "Use of one, with nothing left", p.Use(place(1, 1)), api.ErrSpace)
		}
		wantPool(t, p, w)
	}
}

// P6.1: which error is told of two: ErrRange ahead of ErrState, both ahead of ErrSpace, wherever they stand in the list; and nothing is changed.
func TestUseErrors(t *testing.T) {
	p, w := drawn(t, "..--+++++.", 2)
	wantHold(t, p, 2, 1, api.OK)
	w.hold(2)
	for _, c := range []struct {
		list []api.Extent
		want api.Errno
	}{
		{[]api.Extent{place(4, 1), place(10, 1)}, api.ErrRange},
		{[]api.Extent{place(-1, 1)}, api.ErrRange},
		{[]api.Extent{place(4, 0)}, api.ErrRange},
		{[]api.Extent{place(4, -1)}, api.ErrRange},
		{[]api.Extent{place(9, 2)}, api.ErrRange},
		{[]api.Extent{place(math.MaxInt, math.MaxInt)}, api.ErrRange},
		{[]api.Extent{place(5, math.MaxInt), place(5, math.MaxInt)}, api.ErrRange},
		{[]api.Extent{place(math.MinInt, math.MinInt)}, api.ErrRange},
		{[]api.Extent{place(0, 1), place(10, 1)}, api.ErrRange},
		{[]api.Extent{place(10, 1), place(0, 1)}, api.ErrRange},
		{[]api.Extent{place(4, 5), place(-1, 1)}, api.ErrRange},
		{[]api.Extent{place(4, 1), place(4, 1), place(3, 8)}, api.ErrRange},
		{[]api.Extent{place(0, 1)}, api.ErrState},
		{[]api.Extent{place(2, 1)}, api.ErrState},
		{[]api.Extent{place(3, 2)}, api.ErrState},
		{[]api.Extent{place(4, 1), place(4, 1)}, api.ErrState},
		{[]api.Extent{place(4, 5), place(8, 1)}, api.ErrState},
		{[]api.Extent{place(4, 6)}, api.ErrState},
		{[]api.Extent{place(4, 5), place(0, 1)}, api.ErrState},
		{[]api.Extent{place(0, 10)}, api.ErrState},
		{[]api.Extent{place(4, 2)}, api.ErrSpace},
		{[]api.Extent{place(4, 5)}, api.ErrSpace},
		{[]api.Extent{place(4, 1), place(8, 1)}, api.ErrSpace},
	} {
		if got := p.Use(c.list...); got != c.want {
			t.Errorf("Use of %v: error %d, want %d", c.list, got, c.want)
		}
		wantPool(t, p, w)
	}
	wantErr(t, "Use", p.Use(place(6, 1)), api.OK)
}

// The chapter's example.
func TestExample(t *testing.T) {
	p := ticket.New(10, 0, 2)
	wantHold(t, p, 9, 0, api.ErrSpace)
	wantHold(t, p, 8, 1, api.OK)
	if p.Left() != 0 {
		t.Errorf("Left %d", p.Left())
	}
	wantPool(t, p, &byWords{"++++++++++", 2, map[int]int{1: 8}})
}

// P6.2: a ticket of less than nothing, of nothing, of what is left, and of one more.
func TestHold(t *testing.T) {
	for _, c := range []struct{ n, from, reserve int }{{1, 0, 0}, {1, 1, 0}, {1, 0, 1}, {10, 3, 2}, {512, 0, 0}, {512, 12, 500}, {512, 512, 0}} {
		p, w := ticket.New(c.n, c.from, c.reserve), newWords(c.n, c.from, c.reserve)
		left := c.n - c.from - c.reserve
		for _, n := range []int{-1, -2, math.MinInt32, math.MinInt} {
			wantHold(t, p, n, 0, api.ErrArg)
		}
		for _, n := range []int{left + 1, left + 2, 513, 1 << 32, math.MaxInt - 1, math.MaxInt} {
			wantHold(t, p, n, 0, api.ErrSpace)
		}
		wantPool(t, p, w)
		wantHold(t, p, 0, 1, api.OK)
		wantHold(t, p, left, 2, api.OK)
		wantHold(t, p, 1, 0, api.ErrSpace)
		wantHold(t, p, -1, 0, api.ErrArg)
		wantHold(t, p, 0, 3, api.OK)
		w.tickets = map[int]int{1: 0, 2: left, 3: 0}
		wantPool(t, p, w)
	}
}

// P6.2: a new ticket has the least number that none has, in whichever order others went.
func TestLeastNumber(t *testing.T) {
	p := ticket.New(10, 0, 0)
	for id := 1; id <= 6; id++ {
		wantHold(t, p, 1, id, api.OK)
	}
	for _, id := range []int{5, 2, 6, 3} {
		wantErr(t, "Drop", p.Drop(id), api.OK)
	}
	wantTickets(t, p, map[int]int{1: 1, 4: 1})
	wantHold(t, p, 2, 2, api.OK)
	wantErr(t, "Drop", p.Drop(1), api.OK)
	for _, id := range []int{1, 3, 5, 6, 7} {
		wantHold(t, p, 0, id, api.OK)
	}
	wantTickets(t, p, map[int]int{1: 0, 2: 2, 3: 0, 4: 1, 5: 0, 6: 0, 7: 0})
}

// P6.2: a Hold that is refused has no number; nor has it one of those that went.
func TestRefusedHoldHasNoNumber(t *testing.T) {
	p := ticket.New(4, 0, 1)
	wantHold(t, p, 1, 1, api.OK)
	wantHold(t, p, 1, 2, api.OK)
	wantErr(t, "Drop", p.Drop(1), api.OK)
	wantHold(t, p, 3, 0, api.ErrSpace)
	wantHold(t, p, -1, 0, api.ErrArg)
	wantTickets(t, p, map[int]int{2: 1})
	wantHold(t, p, 2, 1, api.OK)
	wantHold(t, p, 1, 0, api.ErrSpace)
	wantHold(t, p, 0, 3, api.OK)
}

// P6.2: in each order in which five tickets can go, and with each number of them gone, the least number is the next.
func TestLeastNumberInEachOrder(t *testing.T) {
	var orders func(head, tail []int)
	orders = func(head, tail []int) {
		p, w := ticket.New(8, 0, 0), newWords(8, 0, 0)
		for range 5 {
			p.Hold(1)
			w.hold(1)
		}
		for _, id := range head {
			wantErr(t, "Drop", p.Drop(id), w.drop(id))
		}
		for range len(head) + 2 {
			id, e := w.hold(0)
			wantHold(t, p, 0, id, e)
		}
		wantTickets(t, p, w.tickets)
		for i, id := range tail {
			orders(append(slices.Clone(head), id), slices.Delete(slices.Clone(tail), i, i+1))
		}
	}
	orders(nil, []int{1, 2, 3, 4, 5})
}

// P6.2: tickets of nothing may be as many as are asked; they end, and their numbers are had again.
func TestManyTickets(t *testing.T) {
	const many = 20000
	p := ticket.New(1, 1, 0)
	for id := 1; id <= many; id++ {
		wantHold(t, p, 0, id, api.OK)
	}
	for id := many; id >= 1; id -= 2 {
		wantErr(t, "Drop", p.Drop(id), api.OK)
	}
	ids := p.Ids()
	if len(ids) != many/2 || !slices.IsSorted(ids) || ids[0] != 1 {
		t.Errorf("%d tickets", len(ids))
	}
	for id := 2; id <= many; id += 2 {
		wantHold(t, p, 0, id, api.OK)
	}
	wantHold(t, p, 0, many+1, api.OK)
}

// P6.2: a ticket is changed to less, to the same, to what it has and what is left together, and not to one more.
func TestChange(t *testing.T) {
	p := ticket.New(12, 1, 2)
	w := newWords(12, 1, 2)
	p.Hold(3)
	p.Hold(4)
	w.tickets = map[int]int{1: 3, 2: 4}
	for _, n := range []int{6, 7, 9, 512, 1 << 32, math.MaxInt - 1, math.MaxInt} {
		wantErr(t, "Change to more", p.Change(1, n), api.ErrSpace)
	}
	for _, n := range []int{-1, -2, math.MinInt} {
		wantErr(t, "Change below 0", p.Change(1, n), api.ErrArg)
	}
	wantPool(t, p, w)
	for _, n := range []int{3, 5, 5, 2, 0, 0, 1, 5, 0, 5} {
		wantErr(t, "Change", p.Change(1, n), api.OK)
		w.tickets[1] = n
		wantPool(t, p, w)
	}
	wantErr(t, "Change of the other", p.Change(2, 5), api.ErrSpace)
	wantErr(t, "Change to the same, with nothing left", p.Change(2, 4), api.OK)
	wantErr(t, "Change to less", p.Change(1, 4), api.OK)
	wantErr(t, "Change of the other", p.Change(2, 5), api.OK)
	w.tickets = map[int]int{1: 4, 2: 5}
	wantPool(t, p, w)
}

// P6.2: a number that no ticket has, and the order of errors beside it; nothing is changed.
func TestNoSuchTicket(t *testing.T) {
	p, w := ticket.New(6, 0, 1), newWords(6, 0, 1)
	for range 3 {
		p.Hold(1)
	}
	p.Drop(2)
	w.tickets = map[int]int{1: 1, 3: 1}
	for _, id := range append([]int{-3, -1, 0, 2, 4, 5}, ends...) {
		for _, n := range append([]int{-1, 0, 1, 3, 4, 6}, ends...) {
			wantErr(t, "Change", p.Change(id, n), api.ErrNone)
		}
		wantDraw(t, p, id, 0, api.ErrNone)
		wantErr(t, "Drop", p.Drop(id), api.ErrNone)
		if n, e := p.Of(id); n != 0 || e != api.ErrNone {
			t.Errorf("Of(%d): %d, error %d", id, n, e)
		}
	}
	wantPool(t, p, w)
	wantHold(t, p, 0, 2, api.OK)
}

// P6.2: a draw takes the first block of the smallest free place, the lowest of those.
func TestDraw(t *testing.T) {
	p, w := drawn(t, "+++.++.-++.+.", 1)
	wantHold(t, p, 7, 1, api.OK)
	w.hold(7)
	for i, want := range []int{11, 4, 5, 8, 9, 0, 1} {
		wantDraw(t, p, 1, want, api.OK)
		w.draw(1)
		wantPool(t, p, w)
		if n, e := p.Of(1); n != 6-i || e != api.OK {
			t.Errorf("Of(1): %d, error %d, want %d", n, e, 6-i)
		}
	}
	wantDraw(t, p, 1, 0, api.ErrState)
	wantPool(t, p, &byWords{"..+....-.....", 1, map[int]int{1: 0}})
}

// P6.2: a ticket that has 0, at first, by a Change, or by draws, though blocks are left.
func TestDrawOfNothing(t *testing.T) {
	p := ticket.New(9, 0, 0)
	wantHold(t, p, 0, 1, api.OK)
	wantHold(t, p, 2, 2, api.OK)
	wantHold(t, p, 1, 3, api.OK)
	wantErr(t, "Change", p.Change(2, 0), api.OK)
	wantDraw(t, p, 3, 0, api.OK)
	for id := 1; id <= 3; id++ {
		wantDraw(t, p, id, 0, api.ErrState)
	}
	wantPool(t, p, &byWords{".++++++++", 0, map[int]int{1: 0, 2: 0, 3: 0}})
	wantErr(t, "Change", p.Change(1, 1), api.OK)
	wantDraw(t, p, 1, 1, api.OK)
}

// P6.2: what a ticket still has is left again when it is dropped; what was drawn of it stays used.
func TestDrop(t *testing.T) {
	p := ticket.New(5, 0, 1)
	wantHold(t, p, 4, 1, api.OK)
	wantDraw(t, p, 1, 0, api.OK)
	wantErr(t, "Drop", p.Drop(1), api.OK)
	wantPool(t, p, &byWords{".++++", 1, nil})
	wantErr(t, "Drop again", p.Drop(1), api.ErrNone)
	wantDraw(t, p, 1, 0, api.ErrNone)
	wantHold(t, p, 4, 0, api.ErrSpace)
	wantHold(t, p, 3, 1, api.OK)
	wantPool(t, p, &byWords{".++++", 1, map[int]int{1: 3}})
}

// P6.3: used blocks are late, and free by a Turn, each time as many as were late.
func TestShadowAndTurn(t *testing.T) {
	p := ticket.New(8, 6, 0)
	if n := p.Turn(); n != 0 {
		t.Errorf("Turn of no late block: %d", n)
	}
	wantPool(t, p, &byWords{"......++", 0, nil})
	wantErr(t, "Shadow", p.Shadow(4), api.OK)
	wantErr(t, "Shadow", p.Shadow(5, 0, 2), api.OK)
	wantPool(t, p, &byWords{"-.-.--++", 0, nil})
	if n := p.Turn(); n != 4 {
		t.Errorf("Turn: %d", n)
	}
	wantPool(t, p, &byWords{"+.+.++++", 0, nil})
	if n := p.Turn(); n != 0 {
		t.Errorf("Turn again: %d", n)
	}
	wantPool(t, p, &byWords{"+.+.++++", 0, nil})
}

// P6.3: used blocks are free at once by a Back, and not late.
func TestBack(t *testing.T) {
	p := ticket.New(8, 6, 1)
	wantErr(t, "Back", p.Back(3), api.OK)
	wantErr(t, "Back", p.Back(5, 0), api.OK)
	wantPool(t, p, &byWords{"+..+.+++", 1, nil})
	if n := p.Turn(); n != 0 {
		t.Errorf("Turn: %d", n)
	}
	wantPool(t, p, &byWords{"+..+.+++", 1, nil})
}

// P6.3: of an empty list nothing can be wrong, and nothing is changed.
func TestNoBlocks(t *testing.T) {
	for _, picture := range []string{".", "-", "+", ".-+"} {
		p, w := drawn(t, picture, 0)
		wantErr(t, "Shadow()", p.Shadow(), api.OK)
		wantErr(t, "Back()", p.Back(), api.OK)
		wantErr(t, "Shadow of an empty list", p.Shadow([]int{}...), api.OK)
		wantErr(t, "Back of an empty list", p.Back([]int{}...), api.OK)
		wantPool(t, p, w)
	}
}

// P6.3: blocks that there aren't, that aren't used, or that stand in the list twice; ErrRange is told first, wherever it stands; nothing is changed.
func TestBlocksThatAreWrong(t *testing.T) {
	p, w := drawn(t, "...-+-+..", 0)
	for _, c := range []struct {
		list []int
		want api.Errno
	}{
		{[]int{-1}, api.ErrRange}, {[]int{9}, api.ErrRange}, {[]int{10}, api.ErrRange}, {[]int{512}, api.ErrRange},
		{[]int{0, 9}, api.ErrRange}, {[]int{9, 0}, api.ErrRange}, {[]int{0, -1, 1}, api.ErrRange},
		{[]int{3, 9}, api.ErrRange}, {[]int{9, 3}, api.ErrRange}, {[]int{4, -1}, api.ErrRange}, {[]int{-1, 4}, api.ErrRange},
		{[]int{0, 0, 9}, api.ErrRange}, {[]int{9, 0, 0}, api.ErrRange}, {[]int{9, 9}, api.ErrRange},
		{[]int{0, math.MaxInt}, api.ErrRange}, {[]int{3, 3, math.MinInt}, api.ErrRange},
		{[]int{3}, api.ErrState}, {[]int{4}, api.ErrState}, {[]int{0, 3}, api.ErrState}, {[]int{3, 0}, api.ErrState},
		{[]int{0, 4, 1}, api.ErrState}, {[]int{5, 6}, api.ErrState}, {[]int{0, 1, 2, 7, 8, 6}, api.ErrState},
		{[]int{0, 0}, api.ErrState}, {[]int{0, 1, 0}, api.ErrState}, {[]int{8, 0, 7, 8}, api.ErrState}, {[]int{3, 3}, api.ErrState}, {[]int{4, 4}, api.ErrState},
		{slices.Repeat([]int{1}, 1000), api.ErrState},
		{append(slices.Repeat([]int{1}, 1000), 9), api.ErrRange},
	} {
		if got := p.Shadow(c.list...); got != c.want {
			t.Errorf("Shadow of %v: error %d, want %d", c.list, got, c.want)
		}
		wantPool(t, p, w)
		if got := p.Back(c.list...); got != c.want {
			t.Errorf("Back of %v: error %d, want %d", c.list, got, c.want)
		}
		wantPool(t, p, w)
	}
	for _, x := range ends {
		wantErr(t, "Shadow", p.Shadow(x), api.ErrRange)
		wantErr(t, "Back", p.Back(0, x), api.ErrRange)
	}
	wantPool(t, p, w)
	wantErr(t, "Shadow", p.Shadow(8, 0), api.OK)
	wantErr(t, "Back", p.Back(7, 1), api.OK)
	wantPool(t, p, &byWords{"-+.-+-++-", 0, nil})
}

// P6.3: the first and the last block, of pools of each size that can be.
func TestFirstAndLastBlock(t *testing.T) {
	for _, n := range []int{1, 2, 9, 511, 512} {
		p := ticket.New(n, n, 0)
		if p.Kind(-1) != 0 || p.Kind(0) != 1 || p.Kind(n-1) != 1 || p.Kind(n) != 0 {
			t.Errorf("Kind of %d blocks", n)
		}
		wantErr(t, "Back", p.Back(n), api.ErrRange)
		wantErr(t, "Shadow", p.Shadow(n), api.ErrRange)
		wantErr(t, "Shadow", p.Shadow(n-1), api.OK)
		if !slices.Equal(p.Late(), []int{n - 1}) || p.Kind(n-1) != 2 || p.Free() != 0 {
			t.Errorf("Late %v, Kind %d, Free %d", p.Late(), p.Kind(n-1), p.Free())
		}
		if p.Turn() != 1 || p.Kind(n-1) != 3 || p.Free() != 1 {
			t.Errorf("Kind %d, Free %d behind a Turn", p.Kind(n-1), p.Free())
		}
		wantDraw(t, p, 1, 0, api.ErrNone)
		wantHold(t, p, 1, 1, api.OK)
		wantDraw(t, p, 1, n-1, api.OK)
	}
}

// P6.3: all blocks at once, late and back.
func TestAllBlocks(t *testing.T) {
	for _, n := range []int{1, 7, 512} {
		all := make([]int, n)
		for i := range all {
			all[i] = n - 1 - i
		}
		p := ticket.New(n, n, 0)
		wantErr(t, "Shadow", p.Shadow(all...), api.OK)
		wantPool(t, p, &byWords{strings.Repeat("-", n), 0, nil})
		if p.Turn() != n {
			t.Errorf("Turn of %d blocks", n)
		}
		wantPool(t, p, &byWords{strings.Repeat("+", n), 0, nil})
		wantErr(t, "Use", p.Use(place(0, n)), api.OK)
		wantErr(t, "Back", p.Back(all...), api.OK)
		wantPool(t, p, &byWords{strings.Repeat("+", n), 0, nil})
	}
}

// P6.3: late blocks are neither free nor left; they are when they were turned.
func TestLateBlocksAreNotLeft(t *testing.T) {
	p := ticket.New(6, 3, 1)
	wantErr(t, "Shadow", p.Shadow(0, 1), api.OK)
	wantHold(t, p, 3, 0, api.ErrSpace)
	wantHold(t, p, 2, 1, api.OK)
	wantErr(t, "Use", p.Use(place(0, 1)), api.ErrState)
	p.Turn()
	wantErr(t, "Change", p.Change(1, 5), api.ErrSpace)
	wantErr(t, "Change", p.Change(1, 4), api.OK)
	for _, want := range []int{0, 1, 3, 4} {
		wantDraw(t, p, 1, want, api.OK)
	}
	wantPool(t, p, &byWords{".....+", 1, map[int]int{1: 0}})
}

// P6.4: a ticket of n is drawn n times, whatever else is asked between, and though others take all they can.
func TestTicketIsKept(t *testing.T) {
	for seed := range 300 {
		r := rand.New(rand.NewSource(int64(seed)))
		p, w := somePool(r)
		n := r.Intn(p.Left() + 1)
		mine, e := p.Hold(n)
		wantErr(t, "Hold", e, api.OK)
		w.hold(n)
		for range n {
			for range r.Intn(8) {
				someCall(t, r, p, w, mine)
			}
			takeAll(t, p, w)
			at, e := w.draw(mine)
			wantDraw(t, p, mine, at, e)
			wantErr(t, "by words", e, api.OK)
			wantPool(t, p, w)
		}
		wantDraw(t, p, mine, 0, api.ErrState)
		if t.Failed() {
			t.Fatalf("seed %d", seed)
		}
	}
}

// takeAll uses each free block that may be used without a ticket.
func takeAll(t *testing.T, p *ticket.Pool, w *byWords) {
	t.Helper()
	for at := range len(w.picture) {
		list := []api.Extent{place(at, 1)}
		wantErr(t, "Use", p.Use(list...), w.use(list))
	}
	if p.Left() != 0 {
		t.Errorf("Left %d", p.Left())
	}
}

// P6.4: no block is drawn twice, unless it was free again between.
func TestNoBlockTwice(t *testing.T) {
	for seed := range 100 {
		r := rand.New(rand.NewSource(int64(seed)))
		n := 4 + r.Intn(40)
		p := ticket.New(n, 0, 2)
		out := make([]bool, n)
		for range 400 {
			id, e := p.Hold(r.Intn(4))
			if e == api.OK {
				drawAll(t, p, id, out)
			}
			at := r.Intn(n)
			wasLate := p.Kind(at) == 2
			isBack := p.Back(at) == api.OK
			if out[at] != (isBack || wasLate) {
				t.Fatalf("block %d: drawn is %t, back %t, late %t", at, out[at], isBack, wasLate)
			}
			if isBack {
				out[at] = false
			}
			p.Shadow(r.Intn(n))
			if r.Intn(10) == 0 {
				for _, at := range p.Late() {
					out[at] = false
				}
				p.Turn()
			}
			if r.Intn(5) == 0 {
				p.Drop(1 + r.Intn(5))
			}
			if p.Free() < 2 {
				t.Fatalf("%d blocks of the reserve are free", p.Free())
			}
		}
	}
}

// drawAll draws all that a ticket has, and holds that none of it is out already.
func drawAll(t *testing.T, p *ticket.Pool, id int, out []bool) {
	t.Helper()
	n, _ := p.Of(id)
	for range n {
		at, e := p.Draw(id)
		if e != api.OK || out[at] {
			t.Fatalf("Draw(%d): block %d, error %d, drawn already is %t", id, at, e, out[at])
		}
		out[at] = true
	}
	wantDraw(t, p, id, 0, api.ErrState)
}

// P6.4: the reserve stays free, though all is asked that can be; and it is any blocks, not some of their own.
func TestReserve(t *testing.T) {
	for reserve := range 8 {
		p := ticket.New(9, 2, reserve)
		for id := 1; id <= 7-reserve; id++ {
			wantHold(t, p, 1, id, api.OK)
			wantDraw(t, p, id, 1+id, api.OK)
		}
		wantHold(t, p, 1, 0, api.ErrSpace)
		wantErr(t, "Use", p.Use(place(8, 1)), map[bool]api.Errno{true: api.ErrState, false: api.ErrSpace}[reserve == 0])
		if p.Free() != reserve {
			t.Errorf("%d are free, of a reserve of %d", p.Free(), reserve)
		}
		wantErr(t, "Back", p.Back(0), api.OK)
		if p.Free() != reserve+1 || p.Left() != 1 {
			t.Errorf("Free %d, Left %d, with a reserve of %d", p.Free(), p.Left(), reserve)
		}
		if reserve > 0 {
			wantErr(t, "Use", p.Use(place(8, 1)), api.OK)
			wantErr(t, "Use", p.Use(place(0, 1)), api.ErrSpace)
		}
	}
}

// Rule 5: a nil pool.
func TestNil(t *testing.T) {
	var p *ticket.Pool
	for _, list := range [][]api.Extent{nil, {}, {place(0, 1)}, {place(-1, 0)}, {place(0, 1), place(0, 1)}} {
		wantErr(t, "Use", p.Use(list...), api.ErrNil)
	}
	for _, list := range [][]int{nil, {}, {0}, {-1}, {0, 0}, ends} {
		wantErr(t, "Shadow", p.Shadow(list...), api.ErrNil)
		wantErr(t, "Back", p.Back(list...), api.ErrNil)
	}
	for _, x := range append([]int{-1, 0, 1, 512, 513}, ends...) {
		wantHold(t, p, x, 0, api.ErrNil)
		wantDraw(t, p, x, 0, api.ErrNil)
		wantErr(t, "Drop", p.Drop(x), api.ErrNil)
		if n, e := p.Of(x); n != 0 || e != api.ErrNil || p.Kind(x) != 0 {
			t.Errorf("Of(%d): %d, error %d, Kind %d", x, n, e, p.Kind(x))
		}
		for _, n := range append([]int{-1, 0, 1}, ends...) {
			wantErr(t, "Change", p.Change(x, n), api.ErrNil)
		}
	}
	if p.Turn() != 0 || len(p.Ids()) != 0 || len(p.Late()) != 0 || p.Free() != 0 || p.Held() != 0 || p.Left() != 0 {
		t.Error("nil tells something")
	}
}

// Rule 3: what is handed in is neither changed nor kept, nor is its spare room; what is answered is new.
func TestMemory(t *testing.T) {
	p := ticket.New(8, 4, 0)
	spots := []int{3, 0, 7, 7}
	wantErr(t, "Shadow", p.Shadow(spots[:2]...), api.OK)
	wantErr(t, "Back", p.Back(spots[:2]...), api.ErrState)
	if !slices.Equal(spots, []int{3, 0, 7, 7}) {
		t.Errorf("the list is %v", spots)
	}
	spots[0], spots[1] = 1, 2
	list := []api.Extent{place(6, 1), place(4, 1), place(9, 9)}
	wantErr(t, "Use", p.Use(list[:2]...), api.OK)
	wantErr(t, "Use again", p.Use(list[:2]...), api.ErrState)
	if !slices.Equal(list, []api.Extent{place(6, 1), place(4, 1), place(9, 9)}) {
		t.Errorf("the list is %v", list)
	}
	list[0], list[1] = place(5, 1), place(5, 1)
	p.Hold(1)
	p.Hold(0)
	w := &byWords{"-..-.+.+", 0, map[int]int{1: 1, 2: 0}}
	wantPool(t, p, w)
	for _, answer := range [][]int{p.Ids(), p.Late()} {
		clear(answer)
		_ = append(answer[:0], 6, 6)
		_ = append(answer, 6)
		wantPool(t, p, w)
	}
	ids, late := p.Ids(), p.Late()
	p.Turn()
	p.Drop(1)
	p.Hold(2)
	p.Shadow(1, 2)
	if !slices.Equal(ids, []int{1, 2}) || !slices.Equal(late, []int{0, 3}) {
		t.Errorf("Ids were %v, Late was %v", ids, late)
	}
}

// Rule 4: pools know nothing of each other.
func TestPoolsAreApart(t *testing.T) {
	a, b := ticket.New(6, 3, 1), ticket.New(6, 3, 1)
	wantHold(t, a, 2, 1, api.OK)
	wantDraw(t, a, 1, 3, api.OK)
	wantErr(t, "Shadow", a.Shadow(0), api.OK)
	wantErr(t, "Back", a.Back(1), api.OK)
	wantPool(t, b, newWords(6, 3, 1))
	wantErr(t, "Use", b.Use(place(5, 1)), api.OK)
	wantPool(t, a, &byWords{"-+..++", 1, map[int]int{1: 1}})
	wantPool(t, b, &byWords{"...++.", 1, nil})
}

// somePool is one with some of its blocks free, and some promised to nobody.
func somePool(r *rand.Rand) (*ticket.Pool, *byWords) {
	n := 1 + r.Intn(24)
	from := r.Intn(n + 1)
	reserve := r.Intn(min(4, n-from+1))
	return ticket.New(n, from, reserve), newWords(n, from, reserve)
}

// someInt is mostly one from -1 to n, and seldom one of the ends.
func someInt(r *rand.Rand, n int) int {
	if r.Intn(60) == 0 {
		return ends[r.Intn(len(ends))]
	}
	return r.Intn(n+2) - 1
}

// someBlocks is a list of blocks, of which most can be.
func someBlocks(r *rand.Rand, n int) []int {
	list := make([]int, r.Intn(4))
	for i := range list {
		list[i] = r.Intn(n)
		if r.Intn(15) == 0 {
			list[i] = someInt(r, n)
		}
	}
	return list
}

// somePlaces is a list of places, of which most can be.
func somePlaces(r *rand.Rand, n int) []api.Extent {
	list := make([]api.Extent, r.Intn(3))
	for i := range list {
		list[i] = place(r.Intn(n), 1+r.Intn(2))
		if r.Intn(15) == 0 {
			list[i] = place(someInt(r, n), someInt(r, n))
		}
	}
	return list
}

// someTicket is the number of a ticket, or not; never that one.
func someTicket(r *rand.Rand, not int) int {
	for {
		if id := someInt(r, 6); id != not {
			return id
		}
	}
}

// someCall asks something of a pool that doesn't turn one ticket, and holds it against the words.
func someCall(t *testing.T, r *rand.Rand, p *ticket.Pool, w *byWords, not int) {
	t.Helper()
	n := len(w.picture)
	switch r.Intn(8) {
	case 0:
		list := somePlaces(r, n)
		wantErr(t, "Use", p.Use(list...), w.use(list))
	case 1:
		size := someInt(r, 4)
		id, e := w.hold(size)
		wantHold(t, p, size, id, e)
	case 2:
		id, size := someTicket(r, not), someInt(r, 5)
		wantErr(t, "Change", p.Change(id, size), w.change(id, size))
	case 3:
		id := someTicket(r, not)
		at, e := w.draw(id)
		wantDraw(t, p, id, at, e)
	case 4:
		id := someTicket(r, not)
		wantErr(t, "Drop", p.Drop(id), w.drop(id))
	case 5:
		list := someBlocks(r, n)
		wantErr(t, "Shadow", p.Shadow(list...), w.turn('.', '-', list))
	case 6:
		list := someBlocks(r, n)
		wantErr(t, "Back", p.Back(list...), w.turn('.', '+', list))
	default:
		if got, want := p.Turn(), w.turnLate(); got != want {
			t.Errorf("Turn: %d, want %d", got, want)
		}
	}
	wantPool(t, p, w)
}

// P1, P6.1 to P6.4: rows of any calls.
func TestAnyCalls(t *testing.T) {
	for seed := range 400 {
		r := rand.New(rand.NewSource(int64(seed)))
		p, w := somePool(r)
		for range 200 {
			someCall(t, r, p, w, math.MinInt)
			if t.Failed() {
				t.Fatalf("seed %d", seed)
			}
		}
	}
}

func FuzzAnyCalls(f *testing.F) {
	f.Add(int64(1), 1, 0, 0)
	f.Add(int64(2), 10, 0, 2)
	f.Add(int64(3), 512, 100, 50)
	f.Fuzz(func(t *testing.T, seed int64, n, from, reserve int) {
		p := ticket.New(n, from, reserve)
		if can := n >= 1 && n <= 512 && from >= 0 && from <= n && reserve >= 0 && reserve <= n-from; can != (p != nil) {
			t.Fatalf("New(%d, %d, %d): there is one: %t", n, from, reserve, p != nil)
		}
		if p == nil {
			return
		}
		r, w := rand.New(rand.NewSource(seed)), newWords(n, from, reserve)
		for range 100 {
			someCall(t, r, p, w, math.MinInt)
		}
	})
}
