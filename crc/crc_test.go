package crc_test

import (
	"hash/crc32"
	"math"
	"math/bits"
	"strings"
	"testing"

	"granger/crc"
)

// plain is the sum as the document tells it, bit by bit.
func plain(s string) uint32 {
	register := uint32(math.MaxUint32)
	for _, b := range []byte(s) {
		register ^= uint32(b)
		for range 8 {
			if register&1 == 1 {
				register = register>>1 ^ 0x82F63B78
			} else {
				register >>= 1
			}
		}
	}
	return ^register
}

// mixed is a text of so many bytes, without a period that a block could have.
func mixed(n int) string {
	b := make([]byte, n)
	state := uint32(2463534242)
	for i := range b {
		state ^= state << 13
		state ^= state >> 17
		state ^= state << 5
		b[i] = byte(state >> 11)
	}
	return string(b)
}

// texts are short and long ones, with all bytes, and with one byte alone.
func texts() []string {
	list := []string{"", "a", "123456789", strings.Repeat("\x00", 32), strings.Repeat("\xff", 32), mixed(256), mixed(70000)}
	for b := range 256 {
		list = append(list, string([]byte{byte(b)}), string([]byte{0xff, byte(b), 0}))
	}
	for n := range 40 {
		list = append(list, strings.Repeat("\x00", n), strings.Repeat("\xff", n), mixed(n))
	}
	return list
}

// sums are the ends, each bit alone, and some between.
func sums() []uint32 {
	list := []uint32{0, 1, 0x7fffffff, 0x80000000, 0xfffffffe, math.MaxUint32, 0x01234567, 0x89abcdef, 0xfedcba98, 0xe3069283}
	for bit := range 32 {
		list = append(list, 1<<bit)
	}
	return list
}

func wantSum(t *testing.T, what string, got, want uint32) {
	t.Helper()
	if got != want {
		t.Errorf("%s: sum %08x, want %08x", what, got, want)
	}
}

// P2.1: sums that the document tells, and some that are known of CRC-32C.
func TestKnownSums(t *testing.T) {
	rising := make([]byte, 32)
	for i := range rising {
		rising[i] = byte(i)
	}
	for s, want := range map[string]uint32{
		"":                         0,
		"123456789":                0xe3069283,
		"a":                        0xc1d04330,
		strings.Repeat("\x00", 32): 0x8a9136aa,
		strings.Repeat("\xff", 32): 0x62a8ab43,
		string(rising):             0x46dd794e,
	} {
		wantSum(t, s, crc.Sum(s), want)
	}
}

// P2.1: the sum is the one that is reckoned bit by bit, and that of the library.
func TestSumIsPlain(t *testing.T) {
	table := crc32.MakeTable(crc32.Castagnoli)
	for _, s := range texts() {
		got := crc.Sum(s)
		if want := plain(s); got != want {
			t.Errorf("%d bytes: %08x, want %08x", len(s), got, want)
		}
		if want := crc32.Checksum([]byte(s), table); got != want {
			t.Errorf("%d bytes: %08x, the library's %08x", len(s), got, want)
		}
	}
}

// P2.1: every byte behind every state of the register's lowest byte.
func TestEveryStep(t *testing.T) {
	for first := range 256 {
		for second := range 256 {
			s := string([]byte{byte(first), byte(second)})
			wantSum(t, s, crc.Sum(s), plain(s))
		}
	}
}

// P2.1: no part, and empty ones, add nothing, to any sum.
func TestNoBytes(t *testing.T) {
	wantSum(t, "no part", crc.Sum(), 0)
	wantSum(t, "nil", crc.Sum([]string(nil)...), 0)
	wantSum(t, "empty parts", crc.Sum("", "", ""), 0)
	for _, sum := range sums() {
		wantSum(t, "no part", crc.More(sum), sum)
		wantSum(t, "nil", crc.More(sum, []string(nil)...), sum)
		wantSum(t, "an empty part", crc.More(sum, ""), sum)
		wantSum(t, "empty parts", crc.More(sum, "", "", ""), sum)
	}
}

// P2.1: what goes on from the sum of nothing is the sum.
func TestMoreOfNothing(t *testing.T) {
	for _, s := range texts() {
		if got, want := crc.More(crc.Sum(), s), plain(s); got != want {
			t.Errorf("%d bytes: %08x, want %08x", len(s), got, want)
		}
	}
}

// endingWith tells four bytes whose sum is sum: each of its register's bits is taken back, from the last to the first.
func endingWith(sum uint32) string {
	register := ^sum
	for range 32 {
		if register>>31 == 1 {
			register = (register^0x82F63B78)<<1 | 1
		} else {
			register <<= 1
		}
	}
	register = ^register
	return string([]byte{byte(register), byte(register >> 8), byte(register >> 16), byte(register >> 24)})
}

// P2.1: a sum of any bytes goes on, the least and the greatest too.
func TestMoreOfAnySum(t *testing.T) {
	for _, sum := range sums() {
		ahead := endingWith(sum)
		wantSum(t, ahead, crc.Sum(ahead), sum)
		for _, s := range []string{"", "\x00", "\xff", "123456789", mixed(100)} {
			wantSum(t, ahead+s, crc.More(sum, s), plain(ahead+s))
			wantSum(t, ahead+s+s, crc.More(sum, s, "", s), plain(ahead+s+s))
		}
	}
}

// P2.1: parts are taken in their order.
func TestPartsInOrder(t *testing.T) {
	if crc.Sum("ab", "cd") == crc.Sum("cd", "ab") || crc.More(7, "ab", "cd") == crc.More(7, "cd", "ab") {
		t.Error("the order of the parts is not told")
	}
}

// The parts are not changed, nor is what stands in their spare room.
func TestPartsStay(t *testing.T) {
	parts := []string{"ab", "", "cd", "spare"}
	crc.Sum(parts[:3]...)
	crc.More(5, parts[:3]...)
	if strings.Join(parts, ",") != "ab,,cd,spare" {
		t.Errorf("%q", parts)
	}
}

// P2.1: eight digits, the highest first.
func TestText(t *testing.T) {
	for sum, want := range map[uint32]string{
		0:              "00000000",
		1:              "00000001",
		0xab:           "000000ab",
		0x01234567:     "01234567",
		0x89abcdef:     "89abcdef",
		0x80000000:     "80000000",
		0xe3069283:     "e3069283",
		math.MaxUint32: "ffffffff",
	} {
		if got := crc.Text(sum); got != want {
			t.Errorf("%d: %q, want %q", sum, got, want)
		}
	}
}

func wantParse(t *testing.T, s string, sum uint32, ok bool) {
	t.Helper()
	if got, is := crc.Parse(s); got != sum || is != ok {
		t.Errorf("%q: %08x, %v, want %08x, %v", s, got, is, sum, ok)
	}
}

// P2.1: Parse is the way back from Text.
func TestParseText(t *testing.T) {
	for _, sum := range sums() {
		wantParse(t, crc.Text(sum), sum, true)
	}
	for sum := uint32(0); sum < math.MaxUint32-65537; sum += 65537 {
		wantParse(t, crc.Text(sum), sum, true)
	}
	wantParse(t, "00000000", 0, true)
	wantParse(t, "ffffffff", math.MaxUint32, true)
	wantParse(t, "01234567", 0x01234567, true)
	wantParse(t, "89abcdef", 0x89abcdef, true)
}

// P2.1: of every byte at every place of eight just a digit, and no great letter, is a sum's.
func TestParseEveryByte(t *testing.T) {
	for place := range 8 {
		for b := range 256 {
			text := []byte("00000000")
			text[place] = byte(b)
			value := strings.IndexByte("0123456789abcdef", byte(b))
			if value < 0 {
				wantParse(t, string(text), 0, false)
				continue
			}
			wantParse(t, string(text), uint32(value)<<(4*(7-place)), true)
		}
	}
}

// P2.1: words that are no sum's.
func TestParseNone(t *testing.T) {
	for _, s := range []string{
		"", "0", "1234567", "123456789", "0000000", "000000000", "00000000000000000", "fffffff", "fffffffff",
		"E3069283", "ABCDEF00", "abcdefAB", "e306928G", "1234567g", "g1234567", " 1234567", "1234567 ", "1234567\n",
		"+1234567", "-1234567", "0x123456", "1_345678", "123.5678", "12345678\x00", "\x0012345678", "\x00\x00\x00\x00\x00\x00\x00\x00",
		"\xff\xff\xff\xff\xff\xff\xff\xff", "1234567\u0660", "123456\u0660", "０１２３４５６７", strings.Repeat("0", 70000),
	} {
		wantParse(t, s, 0, false)
	}
}

// P2.2: two parts, cut at every place, and three.
func TestPartedAtEveryPlace(t *testing.T) {
	for _, s := range []string{"", "a", "123456789", mixed(64), mixed(256)} {
		want := plain(s)
		for i := range len(s) + 1 {
			wantSum(t, "two parts", crc.Sum(s[:i], s[i:]), want)
			wantSum(t, "one, and one more", crc.More(crc.Sum(s[:i]), s[i:]), want)
			wantSum(t, "two more", crc.More(0, s[:i], s[i:]), want)
			wantSum(t, "empty ones between", crc.Sum("", s[:i], "", s[i:], ""), want)
		}
	}
	s := mixed(40)
	for i := range len(s) + 1 {
		for k := i; k <= len(s); k++ {
			wantSum(t, "three parts", crc.Sum(s[:i], s[i:k], s[k:]), plain(s))
			wantSum(t, "one, and two more", crc.More(crc.Sum(s[:i]), s[i:k], s[k:]), plain(s))
		}
	}
}

// P2.2: each byte a part of its own.
func TestPartedInBytes(t *testing.T) {
	s := mixed(300)
	parts := strings.Split(s, "")
	wantSum(t, "bytes", crc.Sum(bytesOf(s)...), plain(s))
	wantSum(t, "runes", crc.Sum(parts...), plain(s))
	sum := crc.Sum()
	for _, part := range bytesOf(s) {
		sum = crc.More(sum, part)
	}
	wantSum(t, "one more, again and again", sum, plain(s))
}

func bytesOf(s string) []string {
	list := make([]string, len(s))
	for i := range list {
		list[i] = s[i : i+1]
	}
	return list
}

// turned is s with one bit turned. The bits of a byte go into the register the lowest first: in that order they are side by side.
func turned(s string, bit int) string {
	b := []byte(s)
	b[bit/8] ^= 1 << (bit % 8)
	return string(b)
}

// apart tells whether no choice of the differences but the empty one comes to 0.
func apart(list []uint32) bool {
	var with [32]uint32
	for _, d := range list {
		for d != 0 && with[bits.Len32(d)-1] != 0 {
			d ^= with[bits.Len32(d)-1]
		}
		if d == 0 {
			return false
		}
		with[bits.Len32(d)-1] = d
	}
	return true
}

// P2.2: what turns in the sum when several bits turn is what each of them turns, one turned into the other.
func TestDifferencesAdd(t *testing.T) {
	s := mixed(256)
	for a := 0; a < 8*len(s); a += 37 {
		for b := a + 1; b < 8*len(s); b += 41 {
			both := crc.Sum(turned(turned(s, a), b))
			wantSum(t, "two bits", both, crc.Sum(turned(s, a))^crc.Sum(turned(s, b))^crc.Sum(s))
		}
	}
}

// P2.2: at each place of a text, whichever of 32 bits side by side are turned, the sum turns. Since differences add it is enough that none of the 32 comes of the others.
func TestBurstsAreTold(t *testing.T) {
	for _, n := range []int{1, 2, 3, 4, 5, 6, 7, 8, 9, 31, 32, 33, 64, 256} {
		s := mixed(n)
		differences := make([]uint32, 8*n)
		for bit := range differences {
			differences[bit] = crc.Sum(turned(s, bit)) ^ crc.Sum(s)
		}
		width := min(32, 8*n)
		for at := 0; at+width <= 8*n; at++ {
			if !apart(differences[at : at+width]) {
				t.Errorf("%d bytes, bits from %d on: two texts have one sum", n, at)
			}
		}
	}
}

// P2.2: some bursts as they are, parted in two too.
func TestSomeBursts(t *testing.T) {
	s := mixed(64)
	for _, burst := range []uint32{1, 3, 0x80000001, 0x82f63b78, 0xffffffff, 0xaaaaaaab, 0xd5555555} {
		for at := 0; at+32 <= 8*len(s); at++ {
			other := s
			for bit := range 32 {
				if burst>>bit&1 == 1 {
					other = turned(other, at+bit)
				}
			}
			if crc.Sum(other) == crc.Sum(s) || crc.More(crc.Sum(other[:33]), other[33:]) == crc.Sum(s) {
				t.Errorf("burst %08x at %d isn't told", burst, at)
			}
		}
	}
}

// P1: no text is wrong, and Parse and Text are each other's way back.
func FuzzParse(f *testing.F) {
	for _, s := range []string{"", "e3069283", "E3069283", "123456789", "1234567", "0000000g"} {
		f.Add(s)
	}
	f.Fuzz(func(t *testing.T, s string) {
		wantSum(t, s, crc.Sum(s), plain(s))
		sum, ok := crc.Parse(s)
		if ok && crc.Text(sum) != s || !ok && sum != 0 {
			t.Errorf("%q: %08x, %v", s, sum, ok)
		}
		if got, ok := crc.Parse(crc.Text(crc.Sum(s))); !ok || got != crc.Sum(s) {
			t.Errorf("%q: %08x, %v", s, got, ok)
		}
	})
}
