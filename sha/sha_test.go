package sha_test

import (
	"crypto/sha256"
	"encoding/hex"
	"fmt"
	"strings"
	"testing"

	"reliquary/sha"
)

// reference is the digest by the standard library, which the program itself may not lean on.
func reference(s string) string {
	sum := sha256.Sum256([]byte(s))
	return string(sum[:])
}

// message has n bytes of all values, in an order that is not that of a block.
func message(n int) string {
	b := make([]byte, n)
	x := uint32(n)*2654435761 + 1
	for k := range b {
		x = x*1664525 + 1013904223
		b[k] = byte(x >> 24)
	}
	return string(b)
}

// same checks a digest against the one that is wanted.
func same(t *testing.T, what string, got, want string) {
	t.Helper()
	if got != want {
		t.Errorf("%s: %x, not %x", what, got, want)
	}
}

// vectors are digests that are printed in FIPS 180-4's examples and in NIST's lists.
func vectors() map[string]string {
	return map[string]string{
		"":         "e3b0c44298fc1c149afbf4c8996fb92427ae41e4649b934ca495991b7852b855",
		"abc":      "ba7816bf8f01cfea414140de5dae2223b00361a396177a9cb410ff61f20015ad",
		"\xbd":     "68325720aabd7c82f30f554b313d0570c95accbb7dc4b5aae11204c08ffe732b",
		"\xd3":     "28969cdfa74a12c82f3bad960b0b000aca2ac329deea5c2328ebc6f2ba9802c1",
		"\x11\xaf": "5ca7133fa735326081558ac312c620eeca9970d1e70a4b95533d956f072d1f98",
		"abcdbcdecdefdefgefghfghighijhijkijkljklmklmnlmnomnopnopq":                                                         "248d6a61d20638b8e5c026930c3e6039a33ce45964ff2167f6ecedd419db06c1",
		"abcdefghbcdefghicdefghijdefghijkefghijklfghijklmghijklmnhijklmnoijklmnopjklmnopqklmnopqrlmnopqrsmnopqrstnopqrstu": "cf5b16a778af8380036ce59e7b0492370b249b11e8f07a51afac45037afee9d1",
		strings.Repeat("a", 1000000): "cdc76e5c9914fb9281a1c7e284d73e67f1809a48a497200e046d39ccc7112cd0",
	}
}

// P2.1: digests that are known.
func TestSumOfKnownTexts(t *testing.T) {
	for s, digits := range vectors() {
		want, err := hex.DecodeString(digits)
		if err != nil {
			t.Fatal(err)
		}
		same(t, fmt.Sprintf("Sum of %d bytes, %.20q", len(s), s), sha.Sum(s), string(want))
	}
}

// P2.1: every length up to several blocks, so each place in a block at which a message ends, its last eight bytes too.
func TestSumOfEveryLength(t *testing.T) {
	for n := range 5*64 + 2 {
		for _, s := range []string{message(n), strings.Repeat("\x00", n), strings.Repeat("\xff", n), strings.Repeat("\x80", n)} {
			got := sha.Sum(s)
			if len(got) != 32 {
				t.Fatalf("%d bytes: the digest has %d", n, len(got))
			}
			if want := reference(s); got != want {
				t.Errorf("%d bytes (%x..): %x, not %x", n, s[:min(n, 4)], got, want)
			}
		}
	}
}

// P2.1: lengths that take two, three and four bytes of the length's eight, around the ends of blocks.
func TestSumOfLongTexts(t *testing.T) {
	for _, near := range []int{1 << 13, 1 << 16, 1 << 17, 1 << 21} {
		for _, n := range []int{near - 65, near - 64, near - 9, near - 8, near - 1, near, near + 1, near + 55, near + 56, near + 63} {
			s := message(n)
			if sha.Sum(s) != reference(s) {
				t.Errorf("%d bytes: another digest", n)
			}
		}
	}
}

// P2.1: each bit of a block, and of the one behind it, is heard.
func TestSumHearsEachBit(t *testing.T) {
	base := []byte(message(2 * 64))
	seen := map[string]int{sha.Sum(string(base)): -1}
	for bit := range 8 * len(base) {
		base[bit/8] ^= 1 << (bit % 8)
		got := sha.Sum(string(base))
		same(t, "a turned bit", got, reference(string(base)))
		if other, ok := seen[got]; ok {
			t.Errorf("bits %d and %d have one digest", bit, other)
		}
		seen[got] = bit
		base[bit/8] ^= 1 << (bit % 8)
	}
}

// P2.1: a call hangs on its argument alone.
func TestSumAnswersTheSameAgain(t *testing.T) {
	first := sha.Sum("abc")
	sha.Sum(message(1000))
	h := sha.New()
	h.Add(message(77))
	same(t, "once more", sha.Sum("abc"), first)
}

// P2.1: from 2^29 bytes on the number of bits takes more than 32 of them.
func TestLengthBeyond32Bits(t *testing.T) {
	if testing.Short() {
		t.Skip("goes over 2^29 bytes")
	}
	piece := message(1 << 20)
	h, ref := sha.New(), sha256.New()
	for range 1 << 9 {
		h.Add(piece)
		ref.Write([]byte(piece))
	}
	same(t, "2^29 bytes", h.End(), string(ref.Sum(nil)))
	h.Add("abc")
	ref.Write([]byte("abc"))
	same(t, "three bytes more", h.End(), string(ref.Sum(nil)))
}

// P2.2: nothing was added to a new Hash, whatever was added to another one.
func TestNewHasNothing(t *testing.T) {
	empty := reference("")
	old := sha.New()
	if old == nil {
		t.Fatal("New is nil")
	}
	same(t, "new", old.End(), empty)
	old.Add("abc")
	same(t, "a later one", sha.New().End(), empty)
	one := sha.New()
	one.Add("")
	same(t, "nothing added", one.End(), empty)
}

// P2.2: what is added stands behind all else, byte by byte, and End is asked between any two.
func TestEndBetweenBytes(t *testing.T) {
	s := message(4*64 + 3)
	h := sha.New()
	for n := range len(s) + 1 {
		want := reference(s[:n])
		for range 3 {
			if got := h.End(); got != want {
				t.Fatalf("behind %d bytes: %x, not %x", n, got, want)
			}
		}
		if n < len(s) {
			h.Add(s[n : n+1])
			h.Add("")
		}
	}
}

// P2.2: two under way don't touch one another.
func TestTwoUnderWay(t *testing.T) {
	a, b := sha.New(), sha.New()
	x, y := message(300), strings.Repeat("y", 300)
	for k := 0; k < 300; k += 30 {
		a.Add(x[k : k+30])
		b.Add(y[k : k+30])
		same(t, "the one", a.End(), reference(x[:k+30]))
		same(t, "the other", b.End(), reference(y[:k+30]))
	}
}

// P2.2: an answer stays as it was when the Hash goes on.
func TestAnswersStay(t *testing.T) {
	h := sha.New()
	h.Add("abc")
	first := h.End()
	h.Add(message(200))
	h.End()
	same(t, "the first answer", first, reference("abc"))
}

// P2.2: a nil Hash does nothing.
func TestNilHash(t *testing.T) {
	var h *sha.Hash
	for range 2 {
		if s := h.End(); s != "" {
			t.Errorf("End of nil is %x", s)
		}
		h.Add("")
		h.Add("abc")
		h.Add(message(200))
	}
	if h.End() != "" {
		t.Error("End of nil tells bytes")
	}
}

// P2.3: pieces of every length, the last one as long as what is left.
func TestPiecesOfOneLength(t *testing.T) {
	for _, n := range []int{0, 1, 55, 56, 57, 63, 64, 65, 119, 120, 127, 128, 129, 200, 300} {
		s := message(n)
		want := reference(s)
		for size := 1; size <= 200; size++ {
			h := sha.New()
			for at := 0; at < n; at += size {
				h.Add(s[at:min(at+size, n)])
			}
			if got := h.End(); got != want {
				t.Fatalf("%d bytes by %d: %x, not %x", n, size, got, want)
			}
		}
	}
}

// P2.3: all ways to cut a message in three, empty pieces too, with End asked ahead of the last one or not.
func TestThreePieces(t *testing.T) {
	s := message(2*64 + 20)
	want := reference(s)
	for i := range len(s) + 1 {
		for j := i; j <= len(s); j++ {
			h := sha.New()
			h.Add(s[:i])
			h.Add(s[i:j])
			if (i+j)%2 == 0 {
				h.End()
			}
			h.Add(s[j:])
			if got := h.End(); got != want {
				t.Fatalf("cut at %d and %d: %x, not %x", i, j, got, want)
			}
		}
	}
}

// P2.3: pieces of unlike lengths, long ones of many blocks among them.
func TestPiecesOfUnlikeLengths(t *testing.T) {
	s := message(50000)
	h := sha.New()
	for at, k := 0, 0; at < len(s); k++ {
		next := min(at+k*k%1031, len(s))
		h.Add(s[at:next])
		at = next
	}
	same(t, "all pieces", h.End(), sha.Sum(s))
	same(t, "the whole", sha.Sum(s), reference(s))
}

func FuzzPieces(f *testing.F) {
	f.Add("abc", 1, 2)
	f.Add(message(130), 64, 120)
	f.Fuzz(func(t *testing.T, s string, i, j int) {
		i = min(max(i, 0), len(s))
		j = min(max(j, i), len(s))
		h := sha.New()
		for _, piece := range []string{s[:i], s[i:j], s[j:]} {
			h.Add(piece)
		}
		same(t, "pieces", h.End(), reference(s))
		same(t, "Sum", sha.Sum(s), reference(s))
	})
}

func BenchmarkSum(b *testing.B) {
	s := message(1 << 17)
	b.SetBytes(int64(len(s)))
	for b.Loop() {
		sha.Sum(s)
	}
}
