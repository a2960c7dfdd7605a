package slab_test

import (
	"encoding/binary"
	"hash/crc32"
	"math"
	"math/rand"
	"strings"
	"testing"

	"granger/api"
	"granger/dev"
	"granger/slab"
)

// most is the greatest epoch, and the greatest number.
const most = 1<<31 - 1

// summed puts the sum of all that is behind it ahead of a frame's other bytes, in the place of the 4 bytes there.
func summed(f []byte) []byte {
	sum := crc32.Checksum(f[4:], crc32.MakeTable(crc32.Castagnoli))
	return append(binary.BigEndian.AppendUint32(nil, sum), f[4:]...)
}

// raw is a frame of so many bytes, with its right sum, that says of its text that it has length bytes, with body behind that.
func raw(size, length int, body string) []byte {
	f := make([]byte, size)
	binary.BigEndian.PutUint16(f[4:], uint16(length))
	copy(f[6:], body)
	return summed(f)
}

// plain is a plain block by the chapter's words.
func plain(s string) string {
	return string(raw(256, len(s), s))
}

// sectors is a block of a frame of 224 bytes, with both numbers ahead of each 56 of it.
func sectors(epoch, seq uint32, frame []byte) string {
	var b []byte
	for i := range 4 {
		b = binary.BigEndian.AppendUint32(b, epoch)
		b = binary.BigEndian.AppendUint32(b, seq)
		b = append(b, frame[56*i:56*i+56]...)
	}
	return string(b)
}

// stamped is a stamped block by the chapter's words.
func stamped(epoch, seq int, s string) string {
	return sectors(uint32(epoch), uint32(seq), raw(224, len(s), s))
}

// text is one of so many bytes, all unlike 0, that are told by seed.
func text(seed, n int) string {
	r := rand.New(rand.NewSource(int64(seed)))
	b := make([]byte, n)
	for i := range b {
		b[i] = byte(1 + r.Intn(255))
	}
	return string(b)
}

// blank is so many bytes 0.
func blank(n int) string {
	return strings.Repeat("\x00", n)
}

// turned is a block with the byte at a place turned by a mask.
func turned(block string, at int, mask byte) string {
	b := []byte(block)
	b[at] ^= mask
	return string(b)
}

// edges are texts of the edges' lengths, up to longest; some end with bytes 0, or have them alone.
func edges(longest int) []string {
	return []string{
		"", "a", "ab", "\x00", "a\x00", "\x00a", blank(longest - 1), blank(longest),
		text(1, longest-1) + "\x00", text(2, longest-1), text(3, longest), strings.Repeat("\xff", longest),
	}
}

// wrongSizes are lists of bytes that are no block, made of one that is.
func wrongSizes(block string) []string {
	return []string{"", "x", block[:4], block[:6], block[:64], block[:255], block[1:], block + "x", block + "\x00", "\x00" + block, block + block}
}

func wantLay(t *testing.T, s, want string, wantErr api.Errno) {
	t.Helper()
	if got, e := slab.Lay(s); got != want || e != wantErr {
		t.Errorf("Lay(%q): %q, error %d, want %q, %d", s, got, e, want, wantErr)
	}
}

func wantOpen(t *testing.T, block, want string, wantErr api.Errno) {
	t.Helper()
	if got, e := slab.Open(block); got != want || e != wantErr {
		t.Errorf("Open(%q): %q, error %d, want %q, %d", block, got, e, want, wantErr)
	}
}

func wantStamp(t *testing.T, epoch, seq int, s, want string, wantErr api.Errno) {
	t.Helper()
	if got, e := slab.Stamp(epoch, seq, s); got != want || e != wantErr {
		t.Errorf("Stamp(%d, %d, %q): %q, error %d, want %q, %d", epoch, seq, s, got, e, want, wantErr)
	}
}

func wantRead(t *testing.T, block string, epoch, seq int, want string, wantErr api.Errno) {
	t.Helper()
	if x, y, got, e := slab.Read(block); x != epoch || y != seq || got != want || e != wantErr {
		t.Errorf("Read(%q): %d, %d, %q, error %d, want %d, %d, %q, %d", block, x, y, got, e, epoch, seq, want, wantErr)
	}
}

// wantNoRead holds that beside an error all else is zero.
func wantNoRead(t *testing.T, block string, wantErr api.Errno) {
	t.Helper()
	wantRead(t, block, 0, 0, "", wantErr)
}

// P4.1, P4.2: the limits by their names.
func TestLimits(t *testing.T) {
	if slab.MaxBody != 250 || slab.MaxStamped != 218 {
		t.Errorf("MaxBody %d, MaxStamped %d", slab.MaxBody, slab.MaxStamped)
	}
}

// P4.1: each byte of some plain blocks, the sums written out.
func TestLaidBytes(t *testing.T) {
	wantLay(t, "", "\x67\xe6\x53\x21"+blank(252), api.OK)
	wantLay(t, "ab", "\x38\x81\xc7\xf2\x00\x02ab"+blank(248), api.OK)
	wantLay(t, strings.Repeat("\xff", 250), "\x6b\x40\x4e\x48\x00\xfa"+strings.Repeat("\xff", 250), api.OK)
}

// P4.1: a text of each length that can be, and of ones that can't.
func TestLay(t *testing.T) {
	for n := range 251 {
		s := text(n, n)
		wantLay(t, s, plain(s), api.OK)
	}
	for _, s := range edges(250) {
		wantLay(t, s, plain(s), api.OK)
	}
	for _, n := range []int{251, 252, 256, 257, 1 << 16, 1<<16 + 1, 1<<16 + 250} {
		wantLay(t, text(1, n), "", api.ErrArg)
		wantLay(t, blank(n), "", api.ErrArg)
	}
}

// P4.1: a text of no byte is opened; a blank block isn't that.
func TestOpenNothing(t *testing.T) {
	wantOpen(t, plain(""), "", api.OK)
	wantOpen(t, blank(256), "", api.ErrSum)
	wantOpen(t, strings.Repeat("\xff", 256), "", api.ErrForm)
}

// P4.1: a block has 256 bytes.
func TestOpenWrongSizes(t *testing.T) {
	for _, s := range edges(250) {
		for _, b := range wrongSizes(plain(s)) {
			wantOpen(t, b, "", api.ErrArg)
		}
	}
	for _, b := range []string{string(raw(255, 2, "ab")), string(raw(257, 2, "ab")), string(raw(224, 2, "ab"))} {
		wantOpen(t, b, "", api.ErrArg)
	}
}

// P4.1: a length of more bytes than may be is ErrForm, whatever the sum; one that may be is looked at by the sum.
func TestOpenLengths(t *testing.T) {
	body := text(1, 250)
	for _, n := range []int{251, 252, 253, 255, 256, 257, 1<<15 - 1, 1 << 15, 1<<16 - 1} {
		wantOpen(t, string(raw(256, n, body)), "", api.ErrForm)
		wantOpen(t, string(raw(256, n, "")), "", api.ErrForm)
		wantOpen(t, turned(string(raw(256, n, body)), 3, 1), "", api.ErrForm)
	}
	for n := range 250 {
		wantOpen(t, string(raw(256, n, body)), "", api.ErrSum)
	}
	wantOpen(t, string(raw(256, 250, body)), body, api.OK)
	wantOpen(t, turned(string(raw(256, 250, body)), 3, 1), "", api.ErrSum)
}

// P4.1: a byte behind the text that isn't 0 is ErrSum, though the sum is right.
func TestOpenBehindTheText(t *testing.T) {
	for _, n := range []int{0, 1, 2, 100, 248, 249} {
		for at := 6 + n; at < 256; at++ {
			for _, mask := range []byte{1, 0x80, 0xff} {
				b := turned(plain(text(n, n)), at, mask)
				wantOpen(t, b, "", api.ErrSum)
				wantOpen(t, string(summed([]byte(b))), "", api.ErrSum)
			}
		}
	}
}

// P4.1: each byte of a block turned alone is told.
func TestOpenTurned(t *testing.T) {
	for _, s := range []string{"", "ab", text(1, 100), text(2, 250)} {
		for at := range 256 {
			for mask := 1; mask < 256; mask++ {
				b := turned(plain(s), at, byte(mask))
				want := api.ErrSum
				if binary.BigEndian.Uint16([]byte(b[4:])) > 250 {
					want = api.ErrForm
				}
				wantOpen(t, b, "", want)
			}
		}
	}
}

// P4.1: of two things that are wrong the one is told that is named first.
func TestOpenWhichErrorIsFirst(t *testing.T) {
	long := string(raw(256, 251, "x"))
	wantOpen(t, long[:255], "", api.ErrArg)
	wantOpen(t, long+"x", "", api.ErrArg)
	wantOpen(t, turned(plain("ab"), 0, 1)[:255], "", api.ErrArg)
	wantOpen(t, turned(long, 0, 1), "", api.ErrForm)
	wantOpen(t, turned(long, 255, 1), "", api.ErrForm)
	wantOpen(t, turned(turned(plain("ab"), 0, 1), 255, 1), "", api.ErrSum)
}

// P4.2: each byte of a stamped block, the sum written out.
func TestStampedBytes(t *testing.T) {
	numbers := "\x01\x02\x03\x04\x05\x06\x07\x08"
	s := strings.Repeat("\x01", 50) + strings.Repeat("\x02", 56) + strings.Repeat("\x03", 56) + strings.Repeat("\x04", 56)
	want := numbers + "\xdc\xc9\x0e\xe5\x00\xda" + strings.Repeat("\x01", 50) +
		numbers + strings.Repeat("\x02", 56) +
		numbers + strings.Repeat("\x03", 56) +
		numbers + strings.Repeat("\x04", 56)
	wantStamp(t, 0x01020304, 0x05060708, s, want, api.OK)
	wantRead(t, want, 0x01020304, 0x05060708, s, api.OK)
}

// P4.2: a text of each length that can be, and of ones that can't.
func TestStampLengths(t *testing.T) {
	for n := range 219 {
		s := text(n, n)
		wantStamp(t, n+1, n, s, stamped(n+1, n, s), api.OK)
	}
	for _, s := range edges(218) {
		wantStamp(t, 7, 0, s, stamped(7, 0, s), api.OK)
	}
	for _, n := range []int{219, 220, 224, 250, 251, 256, 1 << 16, 1<<16 + 1, 1<<16 + 218} {
		wantStamp(t, 7, 0, text(1, n), "", api.ErrArg)
		wantStamp(t, 7, 0, blank(n), "", api.ErrArg)
	}
}

// P4.2: the numbers' edges, each with each, with a text that can be and one that can't.
func TestStampNumbers(t *testing.T) {
	numbers := []int{math.MinInt, math.MinInt32, -1 << 31, -1, 0, 1, 2, 255, 256, most - 1, most, most + 1, 1<<32 - 1, 1 << 32, 1<<32 + 1, math.MaxInt}
	for _, epoch := range numbers {
		for _, seq := range numbers {
			wantStamp(t, epoch, seq, text(1, 219), "", api.ErrArg)
			if epoch < 1 || epoch > most || seq < 0 || seq > most {
				wantStamp(t, epoch, seq, "ab", "", api.ErrArg)
				continue
			}
			wantStamp(t, epoch, seq, "ab", stamped(epoch, seq, "ab"), api.OK)
			wantRead(t, stamped(epoch, seq, "ab"), epoch, seq, "ab", api.OK)
		}
	}
}

// P4.2: the chapter's example; and blocks of one byte alone.
func TestReadBlank(t *testing.T) {
	wantNoRead(t, blank(256), api.ErrForm)
	wantNoRead(t, strings.Repeat("\xff", 256), api.ErrForm)
	wantNoRead(t, strings.Repeat("\x01", 256), api.ErrForm)
	wantNoRead(t, sectors(1, 0, make([]byte, 224)), api.ErrSum)
}

// P4.2: a block has 256 bytes.
func TestReadWrongSizes(t *testing.T) {
	for _, s := range edges(218) {
		for _, b := range wrongSizes(stamped(1, 0, s)) {
			wantNoRead(t, b, api.ErrArg)
		}
	}
	wantNoRead(t, blank(255), api.ErrArg)
	wantNoRead(t, blank(257), api.ErrArg)
}

// P4.2: numbers that all sectors have, but that can't be.
func TestReadNumbersThatCanNotBe(t *testing.T) {
	frame := raw(224, 2, "ab")
	for _, c := range []struct {
		epoch, seq uint32
		want       api.Errno
	}{
		{0, 0, api.ErrForm}, {0, 1, api.ErrForm}, {0, most, api.ErrForm},
		{1 << 31, 0, api.ErrForm}, {1<<31 + 1, 0, api.ErrForm}, {math.MaxUint32, 0, api.ErrForm},
		{1, 1 << 31, api.ErrForm}, {1, 1<<31 + 1, api.ErrForm}, {1, math.MaxUint32, api.ErrForm},
		{1, 0, api.OK}, {most, 0, api.OK}, {1, most, api.OK}, {most, most, api.OK},
	} {
		b := sectors(c.epoch, c.seq, frame)
		if c.want == api.OK {
			wantRead(t, b, int(c.epoch), int(c.seq), "ab", api.OK)
		} else {
			wantNoRead(t, b, c.want)
		}
	}
}

// P4.2: each sector's numbers turned alone.
func TestReadOneSectorsNumbers(t *testing.T) {
	b := stamped(258, 3, text(1, 218))
	for sector := range 4 {
		for at := range 8 {
			for mask := 1; mask < 256; mask++ {
				wantNoRead(t, turned(b, 64*sector+at, byte(mask)), api.ErrForm)
			}
		}
		whole := sectors(7, 7, raw(224, 218, text(1, 218)))
		wantNoRead(t, b[:64*sector]+whole[64*sector:64*sector+64]+b[64*sector+64:], api.ErrForm)
	}
}

// P4.2: all sectors' numbers turned alike are other numbers, of which the sum knows nothing.
func TestReadAllSectorsNumbers(t *testing.T) {
	for at := range 8 {
		b := stamped(1<<30|3, 1<<30|5, "ab")
		for sector := range 4 {
			b = turned(b, 64*sector+at, 0x20)
		}
		epoch, seq := 1<<30|3, 1<<30|5
		if at < 4 {
			epoch ^= 0x20 << (8 * (3 - at))
		} else {
			seq ^= 0x20 << (8 * (7 - at))
		}
		wantRead(t, b, epoch, seq, "ab", api.OK)
	}
}

// P4.2: a length of more bytes than may be is ErrForm, whatever the sum; one that may be is looked at by the sum.
func TestReadLengths(t *testing.T) {
	body := text(1, 218)
	for _, n := range []int{219, 220, 224, 249, 250, 251, 256, 1 << 15, 1<<16 - 1} {
		wantNoRead(t, sectors(1, 0, raw(224, n, body)), api.ErrForm)
		wantNoRead(t, sectors(1, 0, raw(224, n, "")), api.ErrForm)
		wantNoRead(t, turned(sectors(1, 0, raw(224, n, body)), 8, 1), api.ErrForm)
	}
	for n := range 218 {
		wantNoRead(t, sectors(1, 0, raw(224, n, body)), api.ErrSum)
	}
	wantRead(t, sectors(1, 0, raw(224, 218, body)), 1, 0, body, api.OK)
	wantNoRead(t, turned(sectors(1, 0, raw(224, 218, body)), 8, 1), api.ErrSum)
}

// P4.2: a byte behind the text that isn't 0 is ErrSum, though the sum is right.
func TestReadBehindTheText(t *testing.T) {
	for _, n := range []int{0, 1, 50, 51, 100, 216, 217} {
		for at := 6 + n; at < 224; at++ {
			for _, mask := range []byte{1, 0x80, 0xff} {
				f := []byte(turned(string(raw(224, n, text(n, n))), at, mask))
				wantNoRead(t, sectors(1, 0, f), api.ErrSum)
				wantNoRead(t, sectors(1, 0, summed(f)), api.ErrSum)
			}
		}
	}
}

// P4.2: each byte of a block turned alone is told.
func TestReadTurned(t *testing.T) {
	for _, s := range []string{"", "ab", text(1, 100), text(2, 218)} {
		for at := range 256 {
			for mask := 1; mask < 256; mask++ {
				b := turned(stamped(1, 0, s), at, byte(mask))
				want := api.ErrSum
				if at%64 < 8 || binary.BigEndian.Uint16([]byte(b[12:])) > 218 {
					want = api.ErrForm
				}
				wantNoRead(t, b, want)
			}
		}
	}
}

// P4.2: of two things that are wrong the one is told that is named first.
func TestReadWhichErrorIsFirst(t *testing.T) {
	b := stamped(1, 0, "ab")
	unlike := turned(b, 64, 1)
	long := sectors(1, 0, raw(224, 219, "ab"))
	noEpoch := sectors(0, 0, raw(224, 2, "ab"))
	bad := turned(b, 8, 1)
	for _, x := range []string{unlike, long, noEpoch, bad} {
		wantNoRead(t, x[:255], api.ErrArg)
		wantNoRead(t, x+"x", api.ErrArg)
	}
	for _, x := range []string{unlike, long, noEpoch} {
		wantNoRead(t, turned(x, 8, 1), api.ErrForm)
		wantNoRead(t, turned(x, 255, 1), api.ErrForm)
	}
	wantNoRead(t, turned(bad, 255, 1), api.ErrSum)
}

// P4.1, P4.2: neither kind of block is read as the other one.
func TestOneKindIsNotTheOther(t *testing.T) {
	for _, s := range edges(218) {
		wantNoRead(t, plain(s), api.ErrForm)
		if got, e := slab.Open(stamped(1, 0, s)); e != api.ErrSum || got != "" {
			t.Errorf("Open of a stamped block: %q, %d", got, e)
		}
	}
}

// P4.2: a block of bytes 0 alone.
func TestIsBlank(t *testing.T) {
	if !slab.IsBlank(blank(256)) {
		t.Errorf("256 bytes 0 aren't blank")
	}
	for at := range 256 {
		for bit := range 8 {
			if slab.IsBlank(turned(blank(256), at, 1<<bit)) {
				t.Errorf("blank with bit %d of byte %d", bit, at)
			}
		}
	}
	for _, s := range append(wrongSizes(blank(256)), strings.Repeat("0", 256), plain(""), stamped(1, 0, "")) {
		if slab.IsBlank(s) {
			t.Errorf("%q is blank", s)
		}
	}
}

// P4.3: what was laid is opened, and what was stamped is read, as it was.
func TestThereAndBack(t *testing.T) {
	for seed := range 2000 {
		r := rand.New(rand.NewSource(int64(seed)))
		s := make([]byte, r.Intn(251))
		r.Read(s)
		b, e := slab.Lay(string(s))
		if e != api.OK || len(b) != 256 {
			t.Fatalf("Lay(%q): %d bytes, %d", s, len(b), e)
		}
		wantOpen(t, b, string(s), api.OK)
		s = s[:min(len(s), 218)]
		epoch, seq := 1+r.Intn(most), r.Intn(1<<31)
		b, e = slab.Stamp(epoch, seq, string(s))
		if e != api.OK || len(b) != 256 {
			t.Fatalf("Stamp(%d, %d, %q): %d bytes, %d", epoch, seq, s, len(b), e)
		}
		wantRead(t, b, epoch, seq, string(s), api.OK)
	}
	for _, s := range edges(250) {
		b, _ := slab.Lay(s)
		wantOpen(t, b, s, api.OK)
	}
	for _, s := range edges(218) {
		b, _ := slab.Stamp(most, most, s)
		wantRead(t, b, most, most, s, api.OK)
	}
}

// body is what a stamped block was made of.
type body struct {
	epoch, seq int
	text       string
}

func (b body) block() string {
	block, _ := slab.Stamp(b.epoch, b.seq, b.text)
	return block
}

// pairs are two stamped blocks whose numbers aren't both the same: the epochs, the numbers, or both are others; the texts are the same, too, or others.
func pairs() [][2]body {
	var list [][2]body
	numbers := [][4]int{{1, 0, 2, 0}, {1, 0, 1, 1}, {1, 0, 2, 1}, {1, 2, 2, 1}, {1, 0, most, 0}, {1, 0, 1, most}, {most, most, most - 1, most}, {256, 0, 1, 0}, {258, 3, 3, 258}, {1 << 24, 1, 1, 1 << 24}}
	for _, n := range numbers {
		for _, s := range [][2]string{{"", ""}, {"ab", "ab"}, {"", text(1, 218)}, {text(1, 218), text(1, 218)}, {text(1, 218), text(2, 218)}, {text(3, 60), text(4, 170)}, {text(5, 218), text(5, 217) + "\x00"}} {
			list = append(list, [2]body{{n[0], n[1], s[0]}, {n[2], n[3], s[1]}})
		}
	}
	return list
}

// wantOneOf holds that what is read of a block, if anything, is one of both.
func wantOneOf(t *testing.T, block string, a, b body) {
	t.Helper()
	epoch, seq, s, e := slab.Read(block)
	got := body{epoch, seq, s}
	if e == api.OK && got != a && got != b {
		t.Fatalf("of %d, %d, %q and %d, %d, %q, mixed, %d, %d, %q is read", a.epoch, a.seq, a.text, b.epoch, b.seq, b.text, epoch, seq, s)
	}
	if e != api.OK && got != (body{}) {
		t.Fatalf("beside the error %d: %d, %d, %q", e, epoch, seq, s)
	}
}

// P4.3: each sector is of one of two blocks: all of one are read as that one, and nothing else is.
func TestMixedInTheirPlaces(t *testing.T) {
	for _, p := range pairs() {
		for mask := range 16 {
			var mixed string
			for i := range 4 {
				mixed += p[mask>>i&1].block()[64*i : 64*i+64]
			}
			switch mask {
			case 0, 15:
				c := p[mask&1]
				wantRead(t, mixed, c.epoch, c.seq, c.text, api.OK)
			default:
				wantNoRead(t, mixed, api.ErrForm)
			}
		}
	}
}

// P4.3: any of both blocks' sectors at any place.
func TestMixedInAnyPlaces(t *testing.T) {
	for _, p := range pairs() {
		all := p[0].block() + p[1].block()
		for choice := range 1 << 12 {
			var mixed string
			for i := range 4 {
				at := 64 * (choice >> (3 * i) & 7)
				mixed += all[at : at+64]
			}
			wantOneOf(t, mixed, p[0], p[1])
		}
	}
}

// P4.3: one stamped block is written over another, that is safe or not, and the power goes, with whatever is kept.
func TestMixedByALossOfPower(t *testing.T) {
	for _, p := range pairs() {
		for mask := range 1 << 8 {
			keep := make([]bool, 8)
			for i := range keep {
				keep[i] = mask>>i&1 == 1
			}
			d := dev.New(1)
			d.Write(0, p[0].block())
			d.Flush()
			d.Write(0, p[1].block())
			d.Cut(keep[:4]...)
			wantOneOf(t, d.Image(), p[0], p[1])
			d = dev.New(1)
			d.Write(0, p[0].block())
			d.Write(0, p[1].block())
			d.Cut(keep...)
			wantOneOf(t, d.Image(), p[0], p[1])
		}
	}
}

// openByWords is what Open should say of a block: there is a text whose block it is, or there is none, for a reason.
func openByWords(block string) (string, api.Errno) {
	if len(block) != 256 {
		return "", api.ErrArg
	}
	n := int(binary.BigEndian.Uint16([]byte(block[4:])))
	if n > 250 {
		return "", api.ErrForm
	}
	if s := block[6 : 6+n]; plain(s) == block {
		return s, api.OK
	}
	return "", api.ErrSum
}

// readByWords is that of Read.
func readByWords(block string) (int, int, string, api.Errno) {
	if len(block) != 256 {
		return 0, 0, "", api.ErrArg
	}
	var frame string
	for i := range 4 {
		if block[64*i:64*i+8] != block[:8] {
			return 0, 0, "", api.ErrForm
		}
		frame += block[64*i+8 : 64*i+64]
	}
	epoch := int(binary.BigEndian.Uint32([]byte(block)))
	seq := int(binary.BigEndian.Uint32([]byte(block[4:])))
	n := int(binary.BigEndian.Uint16([]byte(frame[4:])))
	if epoch < 1 || epoch > most || seq > most || n > 218 {
		return 0, 0, "", api.ErrForm
	}
	if s := frame[6 : 6+n]; stamped(epoch, seq, s) == block {
		return epoch, seq, s, api.OK
	}
	return 0, 0, "", api.ErrSum
}

// hold holds all calls against the chapter's words.
func hold(t *testing.T, s string, epoch, seq int) {
	t.Helper()
	want, e := openByWords(s)
	wantOpen(t, s, want, e)
	x, y, want, e := readByWords(s)
	wantRead(t, s, x, y, want, e)
	if slab.IsBlank(s) != (s == blank(256)) {
		t.Errorf("IsBlank(%q)", s)
	}
	if len(s) <= 250 {
		wantLay(t, s, plain(s), api.OK)
	} else {
		wantLay(t, s, "", api.ErrArg)
	}
	if len(s) <= 218 && 1 <= epoch && epoch <= most && 0 <= seq && seq <= most {
		wantStamp(t, epoch, seq, s, stamped(epoch, seq, s), api.OK)
	} else {
		wantStamp(t, epoch, seq, s, "", api.ErrArg)
	}
}

// P1, P4.1, P4.2: texts of any bytes and lengths, and blocks with some bytes turned.
func TestAnyBytes(t *testing.T) {
	for seed := range 5000 {
		r := rand.New(rand.NewSource(int64(seed)))
		b := make([]byte, r.Intn(600))
		r.Read(b)
		hold(t, string(b), int(r.Uint64()), int(r.Uint64()))
		b = b[:min(len(b), r.Intn(219))]
		for _, block := range []string{plain(string(b)), stamped(1+r.Intn(most), r.Intn(1<<31), string(b))} {
			for range r.Intn(4) {
				block = turned(block, r.Intn(256), byte(r.Intn(256)))
			}
			hold(t, block, r.Intn(4), r.Intn(4))
		}
	}
}

func FuzzAnyBytes(f *testing.F) {
	f.Add("", 0, 0)
	f.Add(plain("ab"), 1, 0)
	f.Add(stamped(258, 3, text(1, 218)), most, most)
	f.Fuzz(func(t *testing.T, s string, epoch, seq int) {
		hold(t, s, epoch, seq)
	})
}
