package crc_test

import (
	"fmt"
	"hash/crc32"
	"math"
	"math/bits"
	"strings"
	"testing"

	"reliquary/crc"
)

// byWords: what the check is behind s, if it was sum ahead of it, bit by bit as the chapter's words say it.
func byWords(sum uint32, s string) uint32 {
	sum = ^sum
	for k := range len(s) {
		sum ^= uint32(s[k])
		for range 8 {
			if sum&1 == 1 {
				sum = sum>>1 ^ 0x82f63b78
			} else {
				sum >>= 1
			}
		}
	}
	return ^sum
}

// byLibrary: the same by the standard library, which the program itself may not lean on.
func byLibrary(sum uint32, s string) uint32 {
	return crc32.Update(sum, crc32.MakeTable(crc32.Castagnoli), []byte(s))
}

// text has n bytes of all values, others for each seed.
func text(seed, n int) string {
	b := make([]byte, n)
	x := uint32(seed)*2654435761 + uint32(n) + 1
	for k := range b {
		x = x*1664525 + 1013904223
		b[k] = byte(x >> 24)
	}
	return string(b)
}

// sums are checks to go on from: none, all bits, one bit each, all bits but one, and some that are mixed.
func sums() []uint32 {
	list := []uint32{0, math.MaxUint32, 0x82f63b78, 0xe3069283, 0x12345678}
	for k := range 32 {
		list = append(list, 1<<k, ^uint32(1<<k))
	}
	return list
}

// together: texts of one length put together byte by byte, by exclusive or.
func together(first string, others ...string) string {
	b := []byte(first)
	for _, s := range others {
		for k := range b {
			b[k] ^= s[k]
		}
	}
	return string(b)
}

// turned: a text in which bits of a pattern are turned, the pattern's lowest at the place given, the lowest bit of a byte first. Bits beyond the text's end must be 0.
func turned(s string, at int, pattern uint32) string {
	b := []byte(s)
	for k := range 32 {
		if pattern>>k&1 == 1 {
			b[(at+k)/8] ^= 1 << ((at + k) % 8)
		}
	}
	return string(b)
}

// is checks what both calls answer for one text, by the chapter's words and by the library.
func is(t *testing.T, sum uint32, s string) {
	t.Helper()
	want := byWords(sum, s)
	if lib := byLibrary(sum, s); lib != want {
		t.Fatalf("the words give %08X, the library %08X: %d bytes behind %08X", want, lib, len(s), sum)
	}
	if got := crc.More(sum, s); got != want {
		t.Fatalf("More(%08X, %d bytes, %.20q): %08X, not %08X", sum, len(s), s, got, want)
	}
	if got := crc.Sum(s); sum == 0 && got != want {
		t.Fatalf("Sum of %d bytes, %.20q: %08X, not %08X", len(s), s, got, want)
	}
}

// P4.1: the chapter's examples, and checks that are printed elsewhere (RFC 3720, B.4, among them).
func TestKnownChecks(t *testing.T) {
	var rising, falling [32]byte
	for k := range 32 {
		rising[k], falling[31-k] = byte(k), byte(k)
	}
	for s, want := range map[string]uint32{
		"":                         0,
		"123456789":                0xe3069283,
		"a":                        0xc1d04330,
		"abc":                      0x364b3fb7,
		strings.Repeat("\x00", 32): 0x8a9136aa,
		strings.Repeat("\xff", 32): 0x62a8ab43,
		string(rising[:]):          0x46dd794e,
		string(falling[:]):         0x113fdb5c,
		"The quick brown fox jumps over the lazy dog": 0x22620404,
	} {
		if got := crc.Sum(s); got != want {
			t.Errorf("Sum(%q): %08X, not %08X", s, got, want)
		}
		if got := crc.More(0, s); got != want {
			t.Errorf("More(0, %q): %08X, not %08X", s, got, want)
		}
	}
}

// P4.1: no bytes leave each check as it was.
func TestNoBytes(t *testing.T) {
	for _, sum := range sums() {
		if got := crc.More(sum, ""); got != sum {
			t.Errorf("More(%08X, nothing): %08X", sum, got)
		}
	}
	if got := crc.Sum(""); got != 0 {
		t.Errorf("Sum of nothing: %08X", got)
	}
}

// P4.1: each byte, alone and behind each check.
func TestEachByte(t *testing.T) {
	for c := range 256 {
		s := string([]byte{byte(c)})
		for _, sum := range sums() {
			is(t, sum, s)
		}
	}
}

// P4.1: each pair of bytes.
func TestEachPairOfBytes(t *testing.T) {
	for c := range 1 << 16 {
		s := string([]byte{byte(c >> 8), byte(c)})
		if got, want := crc.Sum(s), byWords(0, s); got != want {
			t.Fatalf("Sum(%x): %08X, not %08X", s, got, want)
		}
	}
}

// P4.1: each byte at each place of a text, with other bytes and with zeros around it.
func TestEachByteAtEachPlace(t *testing.T) {
	for c := range 256 {
		for _, around := range []string{text(c, 20), strings.Repeat("\x00", 20), strings.Repeat("\xff", 20)} {
			for at := range len(around) {
				is(t, 0, around[:at]+string([]byte{byte(c)})+around[at+1:])
			}
		}
	}
}

// P4.1: each length up to some hundreds, behind each check.
func TestEachLength(t *testing.T) {
	for n := range 300 {
		for _, s := range []string{text(n, n), strings.Repeat("\x00", n), strings.Repeat("\xff", n), strings.Repeat("é", n)} {
			for _, sum := range []uint32{0, math.MaxUint32, uint32(n) * 2654435761} {
				is(t, sum, s)
			}
		}
	}
}

// P4.1: long texts.
func TestLongTexts(t *testing.T) {
	for _, near := range []int{1 << 10, 1 << 16, 1 << 18, 1 << 22} {
		for _, n := range []int{near - 1, near, near + 1} {
			is(t, 0, text(1, n))
			is(t, math.MaxUint32, text(2, n))
		}
	}
}

// P4.1: zeros at a text's beginning and at its end are heard, as many as there are.
func TestZerosAreHeard(t *testing.T) {
	seen := map[uint32]string{}
	for _, s := range []string{"", "a"} {
		for ahead := range 40 {
			for behind := range 40 {
				if s == "" && behind > 0 {
					continue
				}
				whole := strings.Repeat("\x00", ahead) + s + strings.Repeat("\x00", behind)
				is(t, 0, whole)
				if other, ok := seen[crc.Sum(whole)]; ok {
					t.Errorf("%x and %x have one check", whole, other)
				}
				seen[crc.Sum(whole)] = whole
			}
		}
	}
}

// P4.1: a call hangs on its arguments alone.
func TestTheSameOnceMore(t *testing.T) {
	first := crc.Sum("abc")
	crc.More(77, text(1, 1000))
	crc.Sum(text(2, 1000))
	if got := crc.Sum(strings.Clone("abc")); got != first {
		t.Errorf("once more: %08X, not %08X", got, first)
	}
}

// P4.2: a text cut at each place, its ends among them.
func TestCutAtEachPlace(t *testing.T) {
	for _, n := range []int{0, 1, 2, 3, 4, 5, 8, 9, 31, 32, 33, 255, 256, 257, 1000} {
		for _, s := range []string{text(n, n), strings.Repeat("\x00", n), strings.Repeat("\xff", n)} {
			whole := crc.Sum(s)
			for at := range n + 1 {
				if got := crc.More(crc.Sum(s[:at]), s[at:]); got != whole {
					t.Fatalf("%d bytes cut at %d: %08X, not %08X", n, at, got, whole)
				}
			}
		}
	}
}

// P4.2: in three pieces, behind each check.
func TestThreePieces(t *testing.T) {
	s := text(5, 40)
	for _, sum := range sums() {
		want := byWords(sum, s)
		for i := range len(s) + 1 {
			for j := i; j <= len(s); j++ {
				if got := crc.More(crc.More(crc.More(sum, s[:i]), s[i:j]), s[j:]); got != want {
					t.Fatalf("behind %08X, cut at %d and %d: %08X, not %08X", sum, i, j, got, want)
				}
			}
		}
	}
}

// P4.2: byte by byte, with the check asked for behind each.
func TestByteByByte(t *testing.T) {
	s := text(6, 3000)
	sum := uint32(0)
	for k := range len(s) {
		sum = crc.More(sum, s[k:k+1])
		if want := byLibrary(0, s[:k+1]); sum != want {
			t.Fatalf("behind %d bytes: %08X, not %08X", k+1, sum, want)
		}
	}
}

// P4.2: a long text, cut at its ends and within.
func TestLongTextCut(t *testing.T) {
	s := text(7, 1<<20)
	whole := byLibrary(0, s)
	for _, at := range []int{0, 1, 2, 3, 4, 255, 256, 1 << 16, 1<<19 + 1, len(s) - 4, len(s) - 1, len(s)} {
		if got := crc.More(crc.Sum(s[:at]), s[at:]); got != whole {
			t.Errorf("cut at %d: %08X, not %08X", at, got, whole)
		}
	}
}

// joinIs checks that three checks' exclusive or is the check of the three texts'.
func joinIs(t *testing.T, a, b, c string) {
	t.Helper()
	got, want := crc.Sum(a)^crc.Sum(b)^crc.Sum(c), crc.Sum(together(a, b, c))
	if got != want {
		t.Errorf("%d bytes, %.8x, %.8x, %.8x: %08X, not %08X", len(a), a, b, c, got, want)
	}
}

// P4.2: three texts of one length, of each length; the same one twice or three times, and zeros and ones among them.
func TestThreeTextsTogether(t *testing.T) {
	for n := range 300 {
		zeros, ones := strings.Repeat("\x00", n), strings.Repeat("\xff", n)
		a, b, c := text(1, n), text(2, n), text(3, n)
		joinIs(t, a, b, c)
		joinIs(t, a, b, zeros)
		joinIs(t, a, b, ones)
		joinIs(t, a, zeros, ones)
		joinIs(t, a, a, b)
		joinIs(t, a, a, a)
		joinIs(t, zeros, zeros, zeros)
		joinIs(t, ones, ones, ones)
	}
	joinIs(t, text(1, 1<<20), text(2, 1<<20), text(3, 1<<20))
}

// P4.2: each three bytes of a few, in which each bit is 0 and 1.
func TestThreeBytesTogether(t *testing.T) {
	one := func(c int) string { return string([]byte{byte(c)}) }
	for a := range 256 {
		for b := range 256 {
			for _, c := range []int{0, 1, 2, 4, 8, 15, 16, 32, 64, 128, 240, 255, a, b, a ^ b} {
				joinIs(t, one(a), one(b), one(c))
			}
		}
	}
}

// unlike checks that a change of a text changes its check.
func unlike(t *testing.T, s string, at int, pattern uint32) {
	t.Helper()
	other := turned(s, at, pattern)
	if other == s {
		t.Fatalf("nothing was turned: %08X at %d", pattern, at)
	}
	if crc.Sum(other) == crc.Sum(s) {
		t.Errorf("%d bytes, %08X turned at bit %d: one check, %08X", len(s), pattern, at, crc.Sum(s))
	}
}

// P4.3: one bit, each of the eight of a byte, at each place, in short texts and in long ones.
func TestOneBit(t *testing.T) {
	for n := 1; n <= 64; n++ {
		for _, s := range []string{text(n, n), strings.Repeat("\x00", n), strings.Repeat("\xff", n)} {
			for at := range 8 * n {
				unlike(t, s, at, 1)
			}
		}
	}
	long := text(1, 1<<16)
	for at := range 16 {
		unlike(t, long, at, 1)
		unlike(t, long, 8*len(long)-1-at, 1)
		unlike(t, long, 4*len(long)+at, 1)
	}
}

// P4.3: patterns of each width from 1 to 32 bits, from the text's first bit to its last one: all bits, the outer two alone, and mixed ones.
func TestBitsThatStandTogether(t *testing.T) {
	for _, n := range []int{1, 2, 3, 4, 5, 6, 9, 40} {
		s := text(n, n)
		for width := 1; width <= min(32, 8*n); width++ {
			ones := uint32(math.MaxUint32) >> (32 - width)
			ends := uint32(1) | 1<<(width-1)
			for at := range 8*n - width + 1 {
				unlike(t, s, at, ones)
				unlike(t, s, at, ends)
				for k := range 8 {
					unlike(t, s, at, uint32(at*31+k+1)*2654435761&ones|ends)
				}
			}
		}
	}
}

// P4.3: the polynomial without its last bit or its first one, and changes beside it, within 32 bits. All its 33 bits are the shortest change that goes unheard.
func TestChangeByThePolynomial(t *testing.T) {
	s := text(9, 8)
	for at := range 8*len(s) - 32 + 1 {
		for _, pattern := range []uint32{0x82f63b78, bits.Reverse32(0x82f63b78), ^uint32(0x82f63b78), 0x05ec76f1} {
			unlike(t, s, at, pattern)
		}
	}
	unheard := turned(turned(s, 0, 1), 1, 0x82f63b78)
	if byWords(0, unheard) != byWords(0, s) || crc.Sum(unheard) != crc.Sum(s) {
		t.Errorf("33 bits of the polynomial are heard: %08X, %08X", crc.Sum(s), crc.Sum(unheard))
	}
}

// rank: how many of some rows of bits are not put together from others.
func rank(rows []uint32) int {
	var byHighest [33]uint32
	count := 0
	for _, row := range rows {
		for row != 0 && byHighest[bits.Len32(row)] != 0 {
			row ^= byHighest[bits.Len32(row)]
		}
		if row != 0 {
			byHighest[bits.Len32(row)] = row
			count++
		}
	}
	return count
}

// P4.3: all patterns of 32 bits at once. By P4.2 a change of several bits changes the check by the exclusive or of what each alone does, so that none is unheard if no one of the 32 is put together from others.
func TestAllPatternsOf32Bits(t *testing.T) {
	for _, n := range []int{4, 5, 6, 7, 8, 33, 100} {
		s := text(n, n)
		for at := range 8*n - 32 + 1 {
			rows := make([]uint32, 32)
			for k := range rows {
				rows[k] = crc.Sum(turned(s, at+k, 1)) ^ crc.Sum(s)
			}
			if got := rank(rows); got != 32 {
				t.Errorf("%d bytes, 32 bits from %d on: %d tell of a change", n, at, got)
			}
		}
	}
}

// P4.3: all changes of up to 16 bits, at the eight bits of a byte, at a text's beginning and at its end.
func TestAllPatternsOf16Bits(t *testing.T) {
	s := text(3, 6)
	base := crc.Sum(s)
	for pattern := uint32(1); pattern < 1<<16; pattern++ {
		for at := range 8 {
			for _, place := range []int{at, 8*len(s) - 16 - at} {
				if crc.Sum(turned(s, place, pattern)) == base {
					t.Fatalf("%04X turned at bit %d is unheard", pattern, place)
				}
			}
		}
	}
}

// P1, and all of the chapter's promises: whatever the arguments are.
func FuzzEachCall(f *testing.F) {
	f.Add(uint32(0), "", 0, uint32(1))
	f.Add(uint32(math.MaxUint32), "123456789", 4, uint32(math.MaxUint32))
	f.Add(uint32(0xe3069283), text(1, 300), -1, uint32(0x82f63b78))
	f.Fuzz(func(t *testing.T, sum uint32, s string, at int, pattern uint32) {
		is(t, sum, s)
		is(t, 0, s)
		cut := min(max(at, 0), len(s))
		if crc.More(crc.More(sum, s[:cut]), s[cut:]) != crc.More(sum, s) {
			t.Errorf("cut at %d: another check", cut)
		}
		joinIs(t, s, strings.Repeat("\x5a", len(s)), text(1, len(s)))
		if len(s) >= 4 && pattern != 0 {
			unlike(t, s, min(max(at, 0), 8*len(s)-32), pattern)
		}
	})
}

func ExampleSum() {
	fmt.Printf("%08X %08X\n", crc.Sum(""), crc.Sum("123456789"))
	// Output: 00000000 E3069283
}

func BenchmarkSum(b *testing.B) {
	s := text(1, 1<<17)
	b.SetBytes(int64(len(s)))
	for b.Loop() {
		crc.Sum(s)
	}
}
