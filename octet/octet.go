// Package octet is layer 1: numbers and texts as bytes. See shared/doc/01-octet.md.
package octet

// numSize is how many bytes a number takes.
const numSize = 4

// Num: a number as four bytes, the lowest first.
func Num(n uint32) string {
	return string([]byte{byte(n), byte(n >> 8), byte(n >> 16), byte(n >> 24)})
}

// Text: a text, how long it is ahead of it.
func Text(s string) string { return Num(uint32(len(s))) + s }

// Reader goes through bytes, and remembers if something was wrong, so that its user may ask once, behind the last part.
type Reader struct {
	rest string
	bad  bool
}

// New: a reader at the beginning of bytes.
func New(s string) *Reader { return &Reader{rest: s} }

// Num: the number that comes next.
func (r *Reader) Num() uint32 {
	s := r.Take(numSize)
	if r.Bad() {
		return 0
	}
	return uint32(s[0]) | uint32(s[1])<<8 | uint32(s[2])<<16 | uint32(s[3])<<24
}

// Text: the text that comes next, of at most most bytes.
func (r *Reader) Text(most int) string {
	n := r.Num()
	// Held against each other as int64, since an int may be too narrow for n.
	if int64(n) > int64(most) {
		r.Spoil()
		return ""
	}
	return r.Take(int(n))
}

// Take: so many bytes, which are read then.
func (r *Reader) Take(n int) string {
	if r.Bad() {
		return ""
	}
	if n < 0 || n > len(r.rest) {
		r.Spoil()
		return ""
	}
	s := r.rest[:n]
	r.rest = r.rest[n:]
	return s
}

// Spoil: it goes wrong, and stays so.
func (r *Reader) Spoil() {
	if r != nil {
		r.bad = true
	}
}

// Bad: whether it went wrong; a nil reader has nothing to read from, and counts as wrong.
func (r *Reader) Bad() bool { return r == nil || r.bad }

// Left: how many bytes weren't read.
func (r *Reader) Left() int {
	if r.Bad() {
		return 0
	}
	return len(r.rest)
}

// Whole: whether all was read, and nothing went wrong.
func (r *Reader) Whole() bool { return !r.Bad() && len(r.rest) == 0 }
