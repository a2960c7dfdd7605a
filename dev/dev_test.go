package dev_test

import (
	"math"
	"math/rand"
	"slices"
	"strings"
	"testing"

	"granger/api"
	"granger/dev"
)

// block is one whose sectors are unlike each other, and unlike those of a block of another number.
func block(n int) string {
	b := make([]byte, api.BlockSize)
	for i := range b {
		b[i] = byte(n*16 + i/api.SectorSize + 1)
	}
	b[0], b[api.BlockSize-1] = byte(n>>8+1), byte(n)
	return string(b)
}

// zero is a block of bytes 0.
func zero() string {
	return strings.Repeat("\x00", 256)
}

// sector is that of a block.
func sector(b string, i int) string {
	return b[64*i : 64*i+64]
}

// mix is a block with each sector of the block that is named for it.
func mix(from ...string) string {
	var b strings.Builder
	for i, s := range from {
		b.WriteString(sector(s, i))
	}
	return b.String()
}

func wantErr(t *testing.T, what string, got, want api.Errno) {
	t.Helper()
	if got != want {
		t.Errorf("%s: error %d, want %d", what, got, want)
	}
}

func wantRead(t *testing.T, d *dev.Device, at int, want string) {
	t.Helper()
	if got, e := d.Read(at); e != api.OK || got != want {
		t.Errorf("Read(%d): %q, %d, want %q", at, got, e, want)
	}
}

func wantNoRead(t *testing.T, d *dev.Device, at int, want api.Errno) {
	t.Helper()
	if got, e := d.Read(at); e != want || got != "" {
		t.Errorf("Read(%d): %q, error %d, want none and %d", at, got, e, want)
	}
}

func wantImage(t *testing.T, d *dev.Device, blocks ...string) {
	t.Helper()
	if got := d.Image(); got != strings.Join(blocks, "") {
		t.Errorf("Image: %q, want %q", got, blocks)
	}
}

func wantAt(t *testing.T, d *dev.Device, want ...int) {
	t.Helper()
	if got := d.At(); !slices.Equal(got, want) || d.Loose() != len(want) {
		t.Errorf("At: %v, Loose: %d, want %v", got, d.Loose(), want)
	}
}

func wantCount(t *testing.T, d *dev.Device, reads, writes, flushes int) {
	t.Helper()
	if got := d.Count(); got != (dev.Count{Reads: reads, Writes: writes, Flushes: flushes}) {
		t.Errorf("Count: %v, want %d, %d, %d", got, reads, writes, flushes)
	}
}

func wantOn(t *testing.T, d *dev.Device, want bool) {
	t.Helper()
	if d.IsOn() != want {
		t.Errorf("IsOn: %t", d.IsOn())
	}
}

// lay writes blocks that must be taken.
func lay(t *testing.T, d *dev.Device, at int, blocks ...string) {
	t.Helper()
	for _, b := range blocks {
		wantErr(t, "Write", d.Write(at, b), api.OK)
	}
}

// P3.1: how many blocks there may be, and how a new device stands.
func TestNew(t *testing.T) {
	for _, n := range []int{1, 2, 64, 511, 512} {
		d := dev.New(n)
		if d == nil || d.Len() != n {
			t.Fatalf("New(%d): %d blocks", n, d.Len())
		}
		wantOn(t, d, true)
		wantCount(t, d, 0, 0, 0)
		wantAt(t, d)
		if d.Image() != strings.Repeat("\x00", 256*n) {
			t.Errorf("New(%d): not all bytes are 0", n)
		}
		wantRead(t, d, 0, zero())
		wantRead(t, d, n-1, zero())
		wantNoRead(t, d, n, api.ErrRange)
	}
	for _, n := range []int{0, -1, 513, 1 << 20, math.MaxInt, math.MinInt} {
		if dev.New(n) != nil {
			t.Errorf("New(%d) isn't nil", n)
		}
	}
}

// P3.1: there is no fuse but one that was told.
func TestNewHasNoFuse(t *testing.T) {
	for _, d := range []*dev.Device{dev.New(2), dev.Of(block(1) + block(2))} {
		for i := range 1000 {
			wantErr(t, "Write", d.Write(i%2, block(i)), api.OK)
			wantErr(t, "Flush", d.Flush(), api.OK)
		}
		wantCount(t, d, 0, 1000, 1000)
	}
}

// P3.1: an image's whole blocks, whatever comes behind them.
func TestOf(t *testing.T) {
	var all strings.Builder
	for n := range 514 {
		all.WriteString(block(n))
	}
	image := all.String()
	for _, size := range []int{256, 257, 511, 512, 513, 256 * 64, 256*512 - 1, 256 * 512, 256*512 + 1, 256*513 - 1} {
		d := dev.Of(image[:size])
		n := size / 256
		if d == nil || d.Len() != n {
			t.Fatalf("Of %d bytes: %d blocks", size, d.Len())
		}
		wantOn(t, d, true)
		wantAt(t, d)
		wantCount(t, d, 0, 0, 0)
		if d.Image() != image[:256*n] {
			t.Errorf("Of %d bytes: another image", size)
		}
		for at := range n {
			wantRead(t, d, at, block(at))
		}
		wantNoRead(t, d, n, api.ErrRange)
		d.Cut()
		if d.Image() != image[:256*n] {
			t.Errorf("Of %d bytes: not all is safe", size)
		}
	}
	for _, size := range []int{0, 1, 255, 256 * 513, 256*513 + 1, 256 * 514} {
		if dev.Of(image[:size]) != nil {
			t.Errorf("Of %d bytes isn't nil", size)
		}
	}
}

// P3.1: two devices of one image have nothing in common.
func TestOfIsAlone(t *testing.T) {
	a := dev.New(2)
	lay(t, a, 0, block(1))
	wantErr(t, "Flush", a.Flush(), api.OK)
	b := dev.Of(a.Image())
	lay(t, b, 0, block(2))
	wantErr(t, "Flush", b.Flush(), api.OK)
	lay(t, a, 1, block(3))
	wantImage(t, a, block(1), zero())
	wantImage(t, b, block(2), zero())
	wantRead(t, b, 1, zero())
}

// P3.1, P1: a nil device answers zero values, and ErrNil ahead of all else.
func TestNil(t *testing.T) {
	var d *dev.Device
	d.Cut(true)
	d.Fuse(0, true)
	d.Fuse(-1)
	d.Come()
	wantErr(t, "Write", d.Write(0, block(1)), api.ErrNil)
	wantErr(t, "Write", d.Write(-1, ""), api.ErrNil)
	wantErr(t, "Flush", d.Flush(), api.ErrNil)
	wantNoRead(t, d, 0, api.ErrNil)
	wantNoRead(t, d, -1, api.ErrNil)
	wantOn(t, d, false)
	wantCount(t, d, 0, 0, 0)
	wantAt(t, d)
	if d.Len() != 0 || d.Image() != "" {
		t.Errorf("%d blocks, %q", d.Len(), d.Image())
	}
}

// P3.2: what was last written is read, safe or not; what is counted is what was done.
func TestReadWriteFlush(t *testing.T) {
	d := dev.New(3)
	lay(t, d, 0, block(1), block(2))
	lay(t, d, 2, block(3))
	wantRead(t, d, 0, block(2))
	wantRead(t, d, 1, zero())
	wantRead(t, d, 2, block(3))
	wantAt(t, d, 0, 0, 2)
	wantImage(t, d, zero(), zero(), zero())
	wantCount(t, d, 3, 3, 0)
	wantErr(t, "Flush", d.Flush(), api.OK)
	wantRead(t, d, 0, block(2))
	wantAt(t, d)
	wantImage(t, d, block(2), zero(), block(3))
	lay(t, d, 2, block(4))
	lay(t, d, 0, block(2))
	wantRead(t, d, 2, block(4))
	wantAt(t, d, 2, 0)
	wantImage(t, d, block(2), zero(), block(3))
	wantErr(t, "Flush", d.Flush(), api.OK)
	wantErr(t, "Flush", d.Flush(), api.OK)
	wantImage(t, d, block(2), zero(), block(4))
	wantCount(t, d, 5, 5, 3)
}

// P3.2: the first and the last block are there, those beside them aren't.
func TestEnds(t *testing.T) {
	for _, n := range []int{1, 2, 512} {
		d := dev.New(n)
		for _, at := range []int{-1, n, n + 1, 512, math.MaxInt, math.MinInt} {
			if at >= 0 && at < n {
				continue
			}
			wantNoRead(t, d, at, api.ErrRange)
			wantErr(t, "Write", d.Write(at, block(1)), api.ErrRange)
		}
		wantAt(t, d)
		wantCount(t, d, 0, 0, 0)
		lay(t, d, n-1, block(1))
		lay(t, d, 0, block(2))
		wantRead(t, d, 0, block(2))
		if n > 1 {
			wantRead(t, d, n-1, block(1))
		}
	}
}

// P3.2: a block has BlockSize bytes; what hasn't has changed nothing.
func TestSizes(t *testing.T) {
	d := dev.New(2)
	lay(t, d, 1, block(1))
	for _, b := range []string{"", "x", block(2)[:64], block(2)[:255], block(2) + "x", block(2) + block(3)} {
		wantErr(t, "Write", d.Write(1, b), api.ErrArg)
	}
	wantRead(t, d, 1, block(1))
	wantAt(t, d, 1)
	wantErr(t, "Flush", d.Flush(), api.OK)
	wantImage(t, d, zero(), block(1))
	wantCount(t, d, 1, 1, 1)
}

// P3.2: of several wrong things the one is told that is named first.
func TestWhichErrorIsFirst(t *testing.T) {
	d := dev.New(2)
	wantErr(t, "no block, wrong size", d.Write(2, "x"), api.ErrRange)
	d.Fuse(0, true)
	wantErr(t, "no block, a fuse", d.Write(2, block(1)), api.ErrRange)
	wantErr(t, "wrong size, a fuse", d.Write(1, "x"), api.ErrArg)
	wantOn(t, d, true)
	d.Cut()
	wantErr(t, "no block, away", d.Write(2, block(1)), api.ErrRange)
	wantErr(t, "no block, wrong size, away", d.Write(-1, "x"), api.ErrRange)
	wantErr(t, "wrong size, away", d.Write(1, "x"), api.ErrArg)
	wantErr(t, "away", d.Write(1, block(1)), api.ErrDown)
	wantErr(t, "away", d.Flush(), api.ErrDown)
	wantNoRead(t, d, 2, api.ErrRange)
	wantNoRead(t, d, -1, api.ErrRange)
	wantNoRead(t, d, 1, api.ErrDown)
	wantAt(t, d)
	wantCount(t, d, 0, 0, 0)
	wantImage(t, d, zero(), zero())
}

// P3.3: the chapter's example.
func TestOneSectorIsKept(t *testing.T) {
	d := dev.New(2)
	lay(t, d, 0, block(1))
	lay(t, d, 1, block(2))
	d.Cut(false, true)
	wantOn(t, d, false)
	wantAt(t, d)
	wantImage(t, d, mix(zero(), block(1), zero(), zero()), zero())
	d.Come()
	wantOn(t, d, true)
	wantRead(t, d, 0, mix(zero(), block(1), zero(), zero()))
	wantRead(t, d, 1, zero())
}

// P3.3: a row that is empty, short, as long as all sectors, and longer.
func TestKeepOfAnyLength(t *testing.T) {
	for size := range 3*4 + 6 {
		d := dev.New(3)
		lay(t, d, 2, block(1))
		lay(t, d, 0, block(2))
		lay(t, d, 1, block(3))
		keep := slices.Repeat([]bool{true}, size)
		d.Cut(keep...)
		whole := func(first int, b string) string {
			from := slices.Repeat([]string{zero()}, 4)
			for i := range from {
				if first+i < size {
					from[i] = b
				}
			}
			return mix(from...)
		}
		wantImage(t, d, whole(4, block(2)), whole(8, block(3)), whole(0, block(1)))
	}
}

// P3.3: of two writes to one block the sectors of either may be kept; where both are the later one lies over the earlier one.
func TestTwoWritesToOneBlock(t *testing.T) {
	for mask := range 256 {
		d := dev.Of(block(9) + block(8))
		lay(t, d, 0, block(1))
		lay(t, d, 0, block(2))
		keep := make([]bool, 8)
		for i := range keep {
			keep[i] = mask>>i&1 == 1
		}
		want := make([]string, 4)
		for i := range want {
			want[i] = block(9)
			if keep[i] {
				want[i] = block(1)
			}
			if keep[4+i] {
				want[i] = block(2)
			}
		}
		d.Cut(keep...)
		wantImage(t, d, mix(want...), block(8))
		d.Come()
		wantRead(t, d, 0, mix(want...))
		wantRead(t, d, 1, block(8))
	}
}

// P3.3: with the power away nothing can be cut, with the power there nothing comes.
func TestCutAndComeTwice(t *testing.T) {
	d := dev.New(1)
	lay(t, d, 0, block(1))
	d.Cut()
	d.Cut(true, true, true, true)
	wantOn(t, d, false)
	wantImage(t, d, zero())
	d.Come()
	lay(t, d, 0, block(2))
	d.Come()
	wantOn(t, d, true)
	wantAt(t, d, 0)
	wantRead(t, d, 0, block(2))
	d.Fuse(0, true)
	d.Come()
	wantErr(t, "Flush behind a fuse and a Come", d.Flush(), api.ErrDown)
	wantImage(t, d, mix(block(2), zero(), zero(), zero()))
	wantCount(t, d, 1, 2, 0)
}

// P3.3: n writes and flushes happen, the next one doesn't; reads aren't counted, nor what is refused for its arguments.
func TestFuse(t *testing.T) {
	for n := range 9 {
		d := dev.New(2)
		keep := []bool{false, false, true, true}
		d.Fuse(n, keep...)
		for i := range n {
			d.Read(0)
			wantErr(t, "no block", d.Write(2, block(1)), api.ErrRange)
			wantErr(t, "wrong size", d.Write(0, "x"), api.ErrArg)
			if i%3 == 2 {
				wantErr(t, "Flush", d.Flush(), api.OK)
			} else {
				wantErr(t, "Write", d.Write(0, block(i+1)), api.OK)
			}
		}
		wantOn(t, d, true)
		safe := d.Image()
		at := d.At()
		last, _ := d.Read(0)
		count := d.Count()
		if n%2 == 0 {
			wantErr(t, "Flush", d.Flush(), api.ErrDown)
		} else {
			wantErr(t, "Write", d.Write(1, block(0)), api.ErrDown)
		}
		wantOn(t, d, false)
		wantAt(t, d)
		if d.Count() != count {
			t.Errorf("what didn't happen was counted")
		}
		if len(at) == 1 {
			safe = mix(safe[:256], safe[:256], last, last) + zero()
		}
		if len(at) == 2 {
			safe = mix(safe[:256], safe[:256], block(n-1), block(n-1)) + zero()
		}
		wantImage(t, d, safe)
	}
}

// P3.3: a write that the fuse met isn't kept, whatever the row says of the place behind the others.
func TestFuseOfZero(t *testing.T) {
	d := dev.New(1)
	d.Fuse(0, true, true, true, true)
	wantErr(t, "Write", d.Write(0, block(1)), api.ErrDown)
	wantOn(t, d, false)
	wantImage(t, d, zero())
	wantCount(t, d, 0, 0, 0)
	d.Come()
	wantErr(t, "Write", d.Write(0, block(2)), api.OK)
	wantErr(t, "Flush", d.Flush(), api.OK)
	wantImage(t, d, block(2))
}

// P3.3: a fuse of less than 0 is none, and takes an earlier one's place; that of the greatest number never ends.
func TestFusesInPlaceOfOthers(t *testing.T) {
	for _, n := range []int{-1, math.MinInt, math.MaxInt, math.MaxInt - 1, 5} {
		d := dev.New(1)
		d.Fuse(2, true, true)
		lay(t, d, 0, block(1))
		d.Fuse(n)
		lay(t, d, 0, block(2), block(3), block(4), block(5), block(6))
		wantOn(t, d, true)
		e := d.Flush()
		if n == 5 {
			wantErr(t, "Flush", e, api.ErrDown)
			wantImage(t, d, zero())
		} else {
			wantErr(t, "Flush", e, api.OK)
			wantImage(t, d, block(6))
		}
	}
}

// P3.3: a fuse begins to count when it is told, and an earlier one that would end sooner isn't there any more.
func TestFuseCountsFromThenOn(t *testing.T) {
	d := dev.New(1)
	lay(t, d, 0, block(1), block(2))
	d.Fuse(1, true)
	lay(t, d, 0, block(3))
	d.Fuse(1, false, false, false, false, true)
	lay(t, d, 0, block(4))
	wantErr(t, "Write", d.Write(0, block(5)), api.ErrDown)
	wantImage(t, d, mix(block(2), zero(), zero(), zero()))
}

// P3.3: the power comes without a fuse, whether that was told ahead of the loss or behind it.
func TestComeTakesTheFuse(t *testing.T) {
	d := dev.New(1)
	d.Fuse(1)
	d.Cut()
	d.Come()
	lay(t, d, 0, block(1), block(2), block(3))
	d.Cut()
	d.Fuse(0, true)
	wantErr(t, "Write", d.Write(0, block(4)), api.ErrDown)
	d.Come()
	lay(t, d, 0, block(5))
	wantErr(t, "Flush", d.Flush(), api.OK)
	wantImage(t, d, block(5))
	wantCount(t, d, 0, 4, 1)
}

// P3.3, rule 3: a row that is handed in is not kept and not changed, its spare room neither; At is new memory.
func TestListsAreNotShared(t *testing.T) {
	d := dev.New(1)
	room := []bool{true, false, true, true, true}
	keep := room[:2]
	d.Fuse(1, keep...)
	keep[0], keep[1] = false, true
	lay(t, d, 0, block(1))
	at := d.At()
	at[0] = 7
	_ = append(at[:0], 8, 9)
	wantAt(t, d, 0)
	wantErr(t, "Flush", d.Flush(), api.ErrDown)
	wantImage(t, d, mix(block(1), zero(), zero(), zero()))
	if !slices.Equal(room, []bool{false, true, true, true, true}) {
		t.Errorf("the row was changed: %v", room)
	}
	d.Come()
	lay(t, d, 0, block(2))
	d.Cut(keep...)
	if !slices.Equal(room, []bool{false, true, true, true, true}) {
		t.Errorf("the row was changed: %v", room)
	}
	wantImage(t, d, mix(block(1), block(2), zero(), zero()))
}

// P3.4: what was flushed stays, whatever is kept of writes to other blocks, and where a sector isn't kept.
func TestFlushedStays(t *testing.T) {
	for mask := range 1 << 12 {
		d := dev.New(4)
		for at := range 4 {
			lay(t, d, at, block(at+1))
		}
		wantErr(t, "Flush", d.Flush(), api.OK)
		lay(t, d, 1, block(11), block(12))
		lay(t, d, 3, block(13))
		keep := make([]bool, 12)
		for i := range keep {
			keep[i] = mask>>i&1 == 1
		}
		d.Cut(keep...)
		image := d.Image()
		if image[:256] != block(1) || image[512:768] != block(3) {
			t.Fatalf("mask %x: a block that wasn't written again is another one", mask)
		}
		for i := range 4 {
			if !keep[i] && !keep[4+i] && sector(image[256:], i) != sector(block(2), i) {
				t.Fatalf("mask %x: sector %d of block 1 is another one", mask, i)
			}
			if !keep[8+i] && sector(image[768:], i) != sector(block(4), i) {
				t.Fatalf("mask %x: sector %d of block 3 is another one", mask, i)
			}
		}
	}
}

// P3.4: what was flushed is there behind many losses of power, and behind fuses of each length.
func TestFlushedStaysThroughLosses(t *testing.T) {
	d := dev.New(2)
	lay(t, d, 0, block(1))
	wantErr(t, "Flush", d.Flush(), api.OK)
	for n := range 50 {
		if n%2 == 0 {
			d.Fuse(n%5, slices.Repeat([]bool{true}, 40)...)
		}
		for i := range n % 7 {
			d.Write(1, block(n+i+2))
		}
		d.Cut(slices.Repeat([]bool{n%3 == 0}, 40)...)
		if d.Image()[:256] != block(1) {
			t.Fatalf("behind loss %d it is away", n)
		}
		d.Come()
		wantRead(t, d, 0, block(1))
	}
}

// plain is a device by the chapter's words alone: writes lie in one row, sector by sector, and what is read is worked out each time.
type plain struct {
	safe    [][4]string
	row     []piece
	away    bool
	hasFuse bool
	asked   int
	fuse    int
	keep    []bool
	count   dev.Count
}

type piece struct {
	at, sector int
	bytes      string
}

func (p *plain) read(at int) (string, api.Errno) {
	if at < 0 || at >= len(p.safe) {
		return "", api.ErrRange
	}
	if p.away {
		return "", api.ErrDown
	}
	block := p.safe[at]
	for _, s := range p.row {
		if s.at == at {
			block[s.sector] = s.bytes
		}
	}
	p.count.Reads++
	return strings.Join(block[:], ""), api.OK
}

func (p *plain) happens() bool {
	if p.away {
		return false
	}
	p.asked++
	if p.hasFuse && p.asked > p.fuse {
		p.cut(p.keep)
		return false
	}
	return true
}

func (p *plain) write(at int, b string) api.Errno {
	switch {
	case at < 0 || at >= len(p.safe):
		return api.ErrRange
	case len(b) != 256:
		return api.ErrArg
	case !p.happens():
		return api.ErrDown
	}
	for i := range 4 {
		p.row = append(p.row, piece{at, i, sector(b, i)})
	}
	p.count.Writes++
	return api.OK
}

func (p *plain) flush() api.Errno {
	if !p.happens() {
		return api.ErrDown
	}
	for _, s := range p.row {
		p.safe[s.at][s.sector] = s.bytes
	}
	p.row = nil
	p.count.Flushes++
	return api.OK
}

func (p *plain) cut(keep []bool) {
	if p.away {
		return
	}
	for i, s := range p.row {
		if i < len(keep) && keep[i] {
			p.safe[s.at][s.sector] = s.bytes
		}
	}
	p.row = nil
	p.away = true
}

func (p *plain) burn(n int, keep []bool) {
	p.hasFuse, p.asked, p.fuse, p.keep = n >= 0, 0, n, slices.Clone(keep)
}

func (p *plain) come() {
	if p.away {
		p.away, p.hasFuse = false, false
	}
}

func (p *plain) image() string {
	var b strings.Builder
	for _, block := range p.safe {
		b.WriteString(strings.Join(block[:], ""))
	}
	return b.String()
}

func (p *plain) at() []int {
	var list []int
	for i := 0; i < len(p.row); i += 4 {
		list = append(list, p.row[i].at)
	}
	return list
}

// plainOf has the whole blocks of an image.
func plainOf(image string) *plain {
	p := &plain{safe: make([][4]string, len(image)/256)}
	for at := range p.safe {
		for i := range 4 {
			p.safe[at][i] = sector(image[256*at:], i)
		}
	}
	return p
}

// step is one call, told by four bytes, of a device and of the plain one.
func step(t *testing.T, d *dev.Device, p *plain, b [4]byte) {
	at := int(b[1])%(d.Len()+2) - 1
	keep := make([]bool, b[2]%24)
	for i := range keep {
		keep[i] = (int(b[3])*(i+3)>>2)&1 == 1
	}
	switch b[0] % 16 {
	case 0, 1, 2, 3, 4, 5:
		text := block(int(b[2])<<4 ^ int(b[3]))
		if b[3] == 7 {
			text = text[:b[2]]
		}
		wantErr(t, "Write", d.Write(at, text), p.write(at, text))
	case 6, 7, 8:
		got, e := d.Read(at)
		want, f := p.read(at)
		if got != want || e != f {
			t.Errorf("Read(%d): %q, %d, want %q, %d", at, got, e, want, f)
		}
	case 9, 10:
		wantErr(t, "Flush", d.Flush(), p.flush())
	case 11:
		d.Cut(keep...)
		p.cut(keep)
	case 12:
		d.Fuse(int(b[1]%8)-1, keep...)
		p.burn(int(b[1]%8)-1, keep)
	default:
		d.Come()
		p.come()
	}
}

// same holds a device against the plain one.
func same(t *testing.T, d *dev.Device, p *plain) {
	t.Helper()
	wantOn(t, d, !p.away)
	wantAt(t, d, p.at()...)
	if d.Image() != p.image() {
		t.Errorf("Image: %q, want %q", d.Image(), p.image())
	}
	if d.Count() != p.count {
		t.Errorf("Count: %v, want %v", d.Count(), p.count)
	}
}

// P3.2 to P3.4: rows of calls of all kinds, each held against the chapter's words.
func TestRowsOfCalls(t *testing.T) {
	for seed := range 300 {
		r := rand.New(rand.NewSource(int64(seed)))
		image := strings.Repeat(block(seed)+block(seed+1), 1+seed%3)
		d, p := dev.Of(image), plainOf(image)
		for i := range 200 {
			step(t, d, p, [4]byte{byte(r.Intn(256)), byte(r.Intn(256)), byte(r.Intn(256)), byte(r.Intn(256))})
			same(t, d, p)
			if t.Failed() {
				t.Fatalf("seed %d, call %d", seed, i)
			}
		}
	}
}

func FuzzRowsOfCalls(f *testing.F) {
	f.Add([]byte("\x00\x01\x02\x03\x0b\x00\x05\xff\x0d\x00\x00\x00\x06\x01\x00\x00"))
	f.Fuzz(func(t *testing.T, calls []byte) {
		image := block(1) + block(2) + block(3)
		d, p := dev.Of(image), plainOf(image)
		for ; len(calls) >= 4; calls = calls[4:] {
			step(t, d, p, [4]byte(calls))
			same(t, d, p)
		}
	})
}
