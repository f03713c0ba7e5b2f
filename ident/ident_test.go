package ident_test

import (
	"encoding/hex"
	"fmt"
	"math"
	"slices"
	"strings"
	"testing"

	"reliquary/api"
	"reliquary/ident"
)

const idDigits = 2 * api.IdSize

// id: the id whose digits begin with some, and go on with zeros.
func id(digits string) string {
	b, err := hex.DecodeString(digits + strings.Repeat("0", idDigits-len(digits)))
	if err != nil {
		panic(err)
	}
	return string(b)
}

// mixed: the n-th of many ids, with bytes of all values.
func mixed(n int) string {
	b := make([]byte, api.IdSize)
	x := uint32(n)*2654435761 + 1
	for k := range b {
		x = x*1664525 + 1013904223
		b[k] = byte(x >> 24)
	}
	return string(b)
}

// digitsOf: an id's digits by the standard library, which the program itself may not lean on.
func digitsOf(id string) string { return hex.EncodeToString([]byte(id)) }

// isDigit: by the chapter's own words.
func isDigit(c byte) bool { return '0' <= c && c <= '9' || 'a' <= c && c <= 'f' }

// otherDigit: the id with another digit at a place.
func otherDigit(id string, at int) string {
	b := []byte(id)
	b[at/2] ^= 0x10 >> (at % 2 * 4)
	return string(b)
}

// wrongIds: bytes that are no ids, since there are too few or too many of them.
func wrongIds() []string {
	return []string{"", "a", strings.Repeat("a", 31), strings.Repeat("\x00", 33), strings.Repeat("0", 63),
		strings.Repeat("0", 64), strings.Repeat("a", 65), strings.Repeat("a", 256+32), strings.Repeat("a", 1<<16+32)}
}

// P3.1: Good is asked how many bytes there are, and nothing else.
func TestGoodHangsOnTheLength(t *testing.T) {
	for n := range 600 {
		for _, c := range []string{"\x00", "0", "g", "\xff"} {
			if got := ident.Good(strings.Repeat(c, n)); got != (n == 32) {
				t.Errorf("Good of %d bytes %q: %v", n, c, got)
			}
		}
	}
	for _, s := range wrongIds() {
		if ident.Good(s) {
			t.Errorf("Good of %d bytes", len(s))
		}
	}
	for n := range 200 {
		if !ident.Good(mixed(n)) {
			t.Errorf("Good of %x is false", mixed(n))
		}
	}
}

// P3.1: Hex writes each byte at each place, the higher half first, in small letters.
func TestHexOfEachByteAtEachPlace(t *testing.T) {
	for c := range 256 {
		for at := range api.IdSize {
			b := []byte(mixed(c))
			b[at] = byte(c)
			if got, want := ident.Hex(string(b)), digitsOf(string(b)); got != want {
				t.Fatalf("Hex with byte %d at %d: %s, not %s", c, at, got, want)
			}
		}
	}
	if got, want := ident.Hex(strings.Repeat("\x0a", 32)), strings.Repeat("0a", 32); got != want {
		t.Errorf("Hex of bytes 0A: %s, not %s", got, want)
	}
}

// P3.1: Hex of what is no id.
func TestHexOfNoId(t *testing.T) {
	for _, s := range wrongIds() {
		if got := ident.Hex(s); got != "" {
			t.Errorf("Hex of %d bytes: %q", len(s), got)
		}
	}
}

// unhexIs checks what Unhex answers.
func unhexIs(t *testing.T, s, want string, code api.Errno) {
	t.Helper()
	if got, e := ident.Unhex(s); got != want || e != code {
		t.Errorf("Unhex(%q): %x, %d; not %x, %d", s, got, e, want, code)
	}
}

// P3.1: Unhex reads what Hex writes.
func TestUnhexReadsWhatHexWrites(t *testing.T) {
	for n := range 500 {
		unhexIs(t, ident.Hex(mixed(n)), mixed(n), api.OK)
	}
	unhexIs(t, strings.Repeat("0", 64), strings.Repeat("\x00", 32), api.OK)
	unhexIs(t, strings.Repeat("f", 64), strings.Repeat("\xff", 32), api.OK)
	unhexIs(t, strings.Repeat("0f", 32), strings.Repeat("\x0f", 32), api.OK)
}

// P3.1: each byte at each place of 64: a digit gives an id of these digits, all others ErrForm.
func TestUnhexOfEachByteAtEachPlace(t *testing.T) {
	for c := range 256 {
		for at := range idDigits {
			b := []byte(digitsOf(mixed(c)))
			b[at] = byte(c)
			s := string(b)
			if !isDigit(byte(c)) {
				unhexIs(t, s, "", api.ErrForm)
				continue
			}
			got, e := ident.Unhex(s)
			if e != api.OK || digitsOf(got) != s {
				t.Errorf("Unhex(%q): %x, %d", s, got, e)
			}
		}
	}
}

// P3.1: a text of another length is ErrArg, whatever its bytes are; ErrArg comes ahead of ErrForm.
func TestUnhexOfOtherLengths(t *testing.T) {
	for n := range 300 {
		for _, c := range []string{"0", "a", "A", "g", "\x00", "\xff"} {
			s := strings.Repeat(c, n)
			switch {
			case n != 64:
				unhexIs(t, s, "", api.ErrArg)
			case !isDigit(c[0]):
				unhexIs(t, s, "", api.ErrForm)
			}
		}
	}
}

// P3.1: 64 signs that are more bytes, and 64 bytes that are fewer signs.
func TestUnhexCountsBytes(t *testing.T) {
	unhexIs(t, strings.Repeat("é", 64), "", api.ErrArg)
	unhexIs(t, strings.Repeat("é", 32), "", api.ErrForm)
}

// P3.2: Digit at all places.
func TestDigitAtEachPlace(t *testing.T) {
	for n := range 300 {
		for at, c := range digitsOf(mixed(n)) {
			want := strings.IndexRune("0123456789abcdef", c)
			if got := ident.Digit(mixed(n), at); got != want {
				t.Fatalf("Digit(%x, %d): %d, not %d", mixed(n), at, got, want)
			}
		}
	}
	if got := ident.Digit(strings.Repeat("\x0a", 32), 1); got != 10 {
		t.Errorf("Digit of bytes 0A at 1: %d", got)
	}
}

// P3.2: places beside an id's digits, and far from them.
func TestDigitAtNoPlace(t *testing.T) {
	for _, at := range []int{-1, -2, -63, -64, 64, 65, 128, 256, math.MinInt, math.MinInt + 1, math.MaxInt,
		math.MinInt32, math.MaxInt32} {
		if got := ident.Digit(mixed(1), at); got != -1 {
			t.Errorf("Digit at %d: %d", at, got)
		}
	}
}

// P3.2: Digit of what is no id.
func TestDigitOfNoId(t *testing.T) {
	for _, s := range wrongIds() {
		for _, at := range []int{math.MinInt, -1, 0, 1, 31, 32, 62, 63, 64, math.MaxInt} {
			if got := ident.Digit(s, at); got != -1 {
				t.Errorf("Digit of %d bytes at %d: %d", len(s), at, got)
			}
		}
	}
}

// P3.2: ids that share each number of digits, whatever stands behind the first unlike one.
func TestShareOfEachNumber(t *testing.T) {
	for n := range 20 {
		a := mixed(n)
		for at := range idDigits {
			b := otherDigit(a, at)
			for later := at; later < idDigits; later += 3 {
				c := b
				if later > at {
					c = otherDigit(b, later)
				}
				if x, y := ident.Share(a, c), ident.Share(c, a); x != at || y != at {
					t.Fatalf("Share(%x, %x): %d and %d, not %d", a, c, x, y, at)
				}
			}
		}
		if got := ident.Share(a, strings.Clone(a)); got != 64 {
			t.Errorf("Share of an id with itself: %d", got)
		}
	}
}

// P3.2: a pair of bytes shares none, one or two digits, by its halves.
func TestShareOfEachPairOfBytes(t *testing.T) {
	tail := mixed(1)[1:]
	for x := range 256 {
		for y := range 256 {
			want := 64
			switch {
			case x/16 != y/16:
				want = 0
			case x != y:
				want = 1
			}
			a, b := string([]byte{byte(x)})+tail, string([]byte{byte(y)})+tail
			if got := ident.Share(a, b); got != want {
				t.Fatalf("Share with first bytes %02x and %02x: %d, not %d", x, y, got, want)
			}
		}
	}
}

// P3.2: Share with what is no id.
func TestShareWithNoId(t *testing.T) {
	good := strings.Repeat("a", 32)
	for _, s := range wrongIds() {
		for _, other := range append(wrongIds(), good) {
			if x, y := ident.Share(s, other), ident.Share(other, s); x != 0 || y != 0 {
				t.Errorf("Share of %d and %d bytes: %d and %d", len(s), len(other), x, y)
			}
		}
	}
}

// P3.2: an id has each beginning of its digits, and no beginning in which one is another digit.
func TestHasBeginnings(t *testing.T) {
	for n := range 20 {
		a := mixed(n)
		digits := digitsOf(a)
		for size := range idDigits + 1 {
			if !ident.Has(a, digits[:size]) {
				t.Fatalf("Has(%x, %q) is false", a, digits[:size])
			}
			for at := range size {
				if wrong := digitsOf(otherDigit(a, at))[:size]; ident.Has(a, wrong) {
					t.Fatalf("Has(%x, %q) is true", a, wrong)
				}
			}
		}
	}
}

// P3.2: each byte as the last of digits.
func TestHasEachByte(t *testing.T) {
	a := id("0123456789abcdef")
	digits := digitsOf(a)
	for at := range idDigits {
		for c := range 256 {
			s := digits[:at] + string([]byte{byte(c)})
			if got := ident.Has(a, s); got != (byte(c) == digits[at]) {
				t.Fatalf("Has(%x, %q): %v", a, s, got)
			}
		}
	}
}

// P3.2: capital letters, other bytes, and more digits than an id has.
func TestHasWrongDigits(t *testing.T) {
	a := strings.Repeat("\xab", 32)
	for _, s := range []string{"A", "AB", "aB", "Ab", "abA", " ab", "ab ", "ab\x00", "\xab", "é", digitsOf(a) + "a",
		digitsOf(a) + "g", digitsOf(a) + digitsOf(a), strings.Repeat("ab", 1<<16)} {
		if ident.Has(a, s) {
			t.Errorf("Has(%x, %.80q) is true", a, s)
		}
	}
}

// P3.2: what is no id has nothing, not even no digits.
func TestHasOfNoId(t *testing.T) {
	for _, s := range wrongIds() {
		for _, digits := range []string{"", "6", "61", "00", digitsOf(s), "x"} {
			if ident.Has(s, digits) {
				t.Errorf("Has of %d bytes, %.80q is true", len(s), digits)
			}
		}
	}
}

// findIs checks what Find answers, and that the list stays as it was.
func findIs(t *testing.T, list []string, digits, want string, code api.Errno) {
	t.Helper()
	before := slices.Clone(list)
	got, e := ident.Find(list, digits)
	if got != want || e != code {
		t.Errorf("Find(%d, %.80q): %x, %d; not %x, %d", len(list), digits, got, e, want, code)
	}
	if !slices.Equal(list, before) {
		t.Errorf("Find(%d, %.80q) changed the list", len(list), digits)
	}
}

// P3.3: the chapter's examples.
func TestFindExamples(t *testing.T) {
	list := []string{id("00"), id("01")}
	findIs(t, list, "00", list[0], api.OK)
	findIs(t, list, "01", list[1], api.OK)
	findIs(t, list, "0", "", api.ErrMany)
	findIs(t, list, "1", "", api.ErrNone)
	findIs(t, list, "0A", "", api.ErrForm)
}

// P3.3: digits of each length, in lists of ids that share as many.
func TestFindByEachLength(t *testing.T) {
	a := mixed(7)
	digits := digitsOf(a)
	for at := range idDigits {
		b := otherDigit(a, at)
		for _, list := range [][]string{{a, b}, {b, a}, {a, b, a}, {b, "", a, b}} {
			for size := range idDigits + 1 {
				if size <= at {
					findIs(t, list, digits[:size], "", api.ErrMany)
					continue
				}
				findIs(t, list, digits[:size], a, api.OK)
				findIs(t, list, digitsOf(b)[:size], b, api.OK)
				if at > 0 {
					findIs(t, list, digitsOf(otherDigit(a, at-1))[:size], "", api.ErrNone)
				}
			}
		}
	}
}

// P3.3: wrong digits are ErrForm ahead of all others, whatever is in the list.
func TestFindWrongDigits(t *testing.T) {
	a, b := id("ab"), id("ac")
	wrong := []string{"A", "aB", "g", "G", "`", "@", "/", ":", " ", "\x00", "\xff", "\xab", "é", "a ", "-1", "0x",
		strings.Repeat("a", 63) + "g", strings.Repeat("0", 65), digitsOf(a) + "0", digitsOf(a) + "x", strings.Repeat("0", 1<<16)}
	for _, list := range [][]string{nil, {}, {""}, {"x"}, {a}, {a, b}, {a, a, b}} {
		for _, s := range wrong {
			findIs(t, list, s, "", api.ErrForm)
		}
	}
}

// P3.3: each byte behind digits that an id has.
func TestFindEachByte(t *testing.T) {
	var list []string
	for c := range 16 {
		list = append(list, id(fmt.Sprintf("%x", c)))
	}
	for c := range 256 {
		s := string([]byte{byte(c)})
		if !isDigit(byte(c)) {
			findIs(t, list, s, "", api.ErrForm)
			continue
		}
		findIs(t, list, s, id(s), api.OK)
		if c != '0' {
			findIs(t, list, s+s, "", api.ErrNone)
		}
	}
}

// P3.3: lists that hold nothing, and only what is no id.
func TestFindInNothing(t *testing.T) {
	for _, list := range [][]string{nil, {}, make([]string, 5), wrongIds()} {
		for _, s := range []string{"", "0", "6", "61", strings.Repeat("0", 64), strings.Repeat("61", 32)} {
			findIs(t, list, s, "", api.ErrNone)
		}
	}
}

// P3.3: what is no id plays no part, though it begins with the same bytes.
func TestFindAmidWhatIsNoId(t *testing.T) {
	a := strings.Repeat("a", 32)
	list := append(wrongIds(), a)
	list = append(list, wrongIds()...)
	for _, s := range []string{"", "6", "61", digitsOf(a)} {
		findIs(t, list, s, a, api.OK)
	}
	findIs(t, list, "0", "", api.ErrNone)
}

// P3.3: an id may be there more than once; no digits at all are digits that each id has.
func TestFindMoreThanOnce(t *testing.T) {
	a, b := mixed(1), mixed(2)
	findIs(t, []string{a}, "", a, api.OK)
	findIs(t, []string{a, strings.Clone(a), "x", strings.Clone(a)}, "", a, api.OK)
	findIs(t, []string{a, a, b}, "", "", api.ErrMany)
	findIs(t, []string{b, a, a}, "", "", api.ErrMany)
	findIs(t, []string{a, b, a}, "", "", api.ErrMany)
	findIs(t, []string{a, b, a, b}, digitsOf(b), b, api.OK)
	zero := strings.Repeat("\x00", 32)
	findIs(t, []string{zero}, "", zero, api.OK)
	findIs(t, []string{zero, zero}, strings.Repeat("0", 64), zero, api.OK)
}

// shortByFind: what Short must answer, by trying each length with Find.
func shortByFind(list []string, id string) string {
	digits := digitsOf(id)
	for size := 4; size <= idDigits && len(digits) == idDigits; size++ {
		if got, e := ident.Find(list, digits[:size]); e == api.OK && got == id {
			return digits[:size]
		}
	}
	return ""
}

// shortIs checks what Short answers, and that the list stays as it was.
func shortIs(t *testing.T, list []string, id, want string) {
	t.Helper()
	before := slices.Clone(list)
	if got := ident.Short(list, id); got != want {
		t.Errorf("Short(%d, %x): %q, not %q", len(list), id, got, want)
	}
	if !slices.Equal(list, before) {
		t.Errorf("Short(%d, %x) changed the list", len(list), id)
	}
}

// P3.4: one digit more than the ids share, four at least, all 64 where only the last one is unlike.
func TestShortOfEachNumberShared(t *testing.T) {
	a := mixed(3)
	for at := range idDigits {
		b := otherDigit(a, at)
		size := max(4, at+1)
		for _, list := range [][]string{{a, b}, {b, a}, {"", b, a, a, b}, {a, id("7"), b}} {
			shortIs(t, list, a, digitsOf(a)[:size])
			shortIs(t, list, b, digitsOf(b)[:size])
		}
	}
}

// P3.4: alone, more than once, and amid what is no id, four digits do.
func TestShortOfFour(t *testing.T) {
	a := strings.Repeat("a", 32)
	for _, list := range [][]string{{a}, {a, a, strings.Clone(a)}, append(wrongIds(), a), {a, mixed(1), mixed(2)}} {
		shortIs(t, list, a, "6161")
	}
}

// P3.4: the id that shares most says how many, wherever it stands.
func TestShortByTheNearest(t *testing.T) {
	a := id("123456789a")
	near, far := id("1234567899"), id("12345677")
	shortIs(t, []string{a, near, far}, a, "123456789a")
	shortIs(t, []string{near, far, a}, a, "123456789a")
	shortIs(t, []string{far, a, near}, far, "12345677")
	shortIs(t, []string{far, a, far}, a, "12345678")
	shortIs(t, []string{id("1234"), id("1235")}, id("1234"), "1234")
	shortIs(t, []string{id("12345"), id("12346")}, id("12345"), "12345")
}

// P3.4: what isn't in the list, and what is no id though it is in the list.
func TestShortOfWhatIsNotThere(t *testing.T) {
	a := mixed(1)
	for _, list := range [][]string{nil, {}, {""}, {mixed(2)}, {otherDigit(a, 63)}, {digitsOf(a)}, {a[:31]}, {a + "x"}} {
		shortIs(t, list, a, "")
	}
	for _, s := range wrongIds() {
		shortIs(t, wrongIds(), s, "")
		shortIs(t, append(wrongIds(), a), s, "")
		shortIs(t, nil, s, "")
	}
}

// P3.4: many ids that lie near each other, held against trying each length with Find.
func TestShortAgainstFind(t *testing.T) {
	for round := range 40 {
		var list []string
		for n := range 30 {
			base := mixed(round)
			if n%5 != 0 {
				base = list[n-1]
			}
			list = append(list, otherDigit(base, int(mixed(100*round + n)[0])%idDigits))
		}
		list = append(list, list[7], "x", list[round%30])
		for _, a := range append(list, mixed(round)) {
			shortIs(t, list, a, shortByFind(list, a))
		}
	}
}

// P1: no call panics, whatever it is given, and each answers the same once more.
func FuzzEachCall(f *testing.F) {
	f.Add("", "", "", 0)
	f.Add(mixed(1), mixed(2), digitsOf(mixed(1)), 63)
	f.Add(mixed(1), otherDigit(mixed(1), 5), "0", -1)
	f.Add(strings.Repeat("a", 31), strings.Repeat("a", 33), "0A", 64)
	f.Add(digitsOf(mixed(1)), "", digitsOf(mixed(1))+"0", math.MaxInt)
	f.Fuzz(func(t *testing.T, a, b, s string, at int) {
		list := []string{a, b, s}
		answers := func() string {
			id, e := ident.Unhex(s)
			found, code := ident.Find(list, s)
			return fmt.Sprint(ident.Good(a), ident.Hex(a), id, e, ident.Digit(a, at), ident.Share(a, b), ident.Has(a, s),
				found, code, ident.Short(list, a))
		}
		if answers() != answers() {
			t.Error("unlike answers to the same arguments")
		}
		if id, e := ident.Unhex(s); e == api.OK && ident.Hex(id) != s {
			t.Errorf("%q is read, but written %q", s, ident.Hex(id))
		}
		if want := len(a) == 32 && len(s) <= 64 && strings.HasPrefix(digitsOf(a), s); ident.Has(a, s) != want {
			t.Errorf("Has(%x, %q) is not %v", a, s, want)
		}
		if ident.Short(list, a) != shortByFind(list, a) {
			t.Errorf("Short of %x", a)
		}
	})
}
