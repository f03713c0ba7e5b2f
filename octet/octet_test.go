package octet_test

import (
	"math"
	"slices"
	"strings"
	"testing"

	"reliquary/octet"
)

// numbers are the ends of uint32 and of each of its bytes.
func numbers() []uint32 {
	list := []uint32{0, 1, 127, 128, 255, 256, 257, 258, 0x04030201, 0x80000000, 0xfffffffe, 0xffffffff}
	for k := range 32 {
		bit := uint32(1) << k
		list = append(list, bit-1, bit, bit+1, ^bit)
	}
	return list
}

// texts are of all bytes, at lengths at which one more byte of the length is taken.
func texts() []string {
	all := make([]byte, 256)
	for k := range all {
		all[k] = byte(k)
	}
	return []string{"", "a", "hi", "\x00", "\xff\xfe", "é", "\x02\x00\x00\x00hi", string(all),
		strings.Repeat("x", 255), strings.Repeat("y", 257), strings.Repeat("z", 1<<16-1), strings.Repeat("w", 1<<16)}
}

// P1.1: four bytes, the lowest first.
func TestNumWritesLowestFirst(t *testing.T) {
	for _, n := range numbers() {
		s := octet.Num(n)
		if len(s) != 4 {
			t.Fatalf("Num(%d) has %d bytes", n, len(s))
		}
		rest := n
		for k := range 4 {
			if uint32(s[k]) != rest%256 {
				t.Errorf("Num(%d): byte %d is %d, not %d", n, k, s[k], rest%256)
			}
			rest /= 256
		}
	}
}

// P1.1: the examples, and each length's bytes ahead of the text.
func TestTextWritesLengthAhead(t *testing.T) {
	for s, want := range map[string]string{
		"":                         "\x00\x00\x00\x00",
		"hi":                       "\x02\x00\x00\x00hi",
		"\xff\x00":                 "\x02\x00\x00\x00\xff\x00",
		"é":                        "\x02\x00\x00\x00\xc3\xa9",
		strings.Repeat("a", 258):   "\x02\x01\x00\x00" + strings.Repeat("a", 258),
		strings.Repeat("b", 1<<16): "\x00\x00\x01\x00" + strings.Repeat("b", 1<<16),
		strings.Repeat("c", 1<<24): "\x00\x00\x00\x01" + strings.Repeat("c", 1<<24),
	} {
		if got := octet.Text(s); got != want {
			t.Errorf("Text of %d bytes: %d bytes that begin with %x", len(s), len(got), got[:min(len(got), 8)])
		}
	}
}

// isRight checks that a reader did not go wrong, and has so many bytes left.
func isRight(t *testing.T, what string, r *octet.Reader, left int) {
	t.Helper()
	if r.Bad() || r.Left() != left || r.Whole() != (left == 0) {
		t.Errorf("%s: bad %v, left %d, whole %v; want %d left", what, r.Bad(), r.Left(), r.Whole(), left)
	}
}

// isWrong checks that a reader went wrong, and stays so whatever it is asked.
func isWrong(t *testing.T, what string, r *octet.Reader) {
	t.Helper()
	for round := range 2 {
		if !r.Bad() || r.Left() != 0 || r.Whole() {
			t.Errorf("%s, round %d: bad %v, left %d, whole %v", what, round, r.Bad(), r.Left(), r.Whole())
		}
		for _, n := range []int{0, 1, 2, 4, -1, math.MinInt, math.MaxInt} {
			if s := r.Take(n); s != "" {
				t.Errorf("%s, round %d: Take(%d) is %q", what, round, n, s)
			}
			if s := r.Text(n); s != "" {
				t.Errorf("%s, round %d: Text(%d) is %q", what, round, n, s)
			}
		}
		if n := r.Num(); n != 0 {
			t.Errorf("%s, round %d: Num is %d", what, round, n)
		}
		r.Spoil()
	}
}

// P1.2: a new reader is at the beginning, and nothing is wrong.
func TestNewIsAtTheBeginning(t *testing.T) {
	for _, s := range texts() {
		r := octet.New(s)
		if r == nil {
			t.Fatal("New is nil")
		}
		isRight(t, "new", r, len(s))
		if got := r.Take(len(s)); got != s {
			t.Errorf("Take(%d) is another text", len(s))
		}
		isRight(t, "taken", r, 0)
	}
}

// P1.2: Take answers the next bytes, one piece behind the other.
func TestTakeGoesOn(t *testing.T) {
	const s = "ab\x00\xffcd"
	for n := range len(s) + 1 {
		for m := range len(s) - n + 1 {
			r := octet.New(s)
			if got := r.Take(n); got != s[:n] {
				t.Errorf("Take(%d) is %q", n, got)
			}
			isRight(t, "first", r, len(s)-n)
			if got := r.Take(m); got != s[n:n+m] {
				t.Errorf("Take(%d), Take(%d) is %q", n, m, got)
			}
			isRight(t, "second", r, len(s)-n-m)
		}
	}
}

// P1.2: Take goes wrong below 0, and beyond what is left, behind other bytes too.
func TestTakeGoesWrong(t *testing.T) {
	for _, s := range []string{"", "a", "abcd"} {
		for at := range len(s) + 1 {
			left := len(s) - at
			for _, n := range []int{-1, -2, -left - 1, math.MinInt32, math.MinInt, left + 1, left + 2, math.MaxInt32, math.MaxInt} {
				r := octet.New(s)
				r.Take(at)
				if got := r.Take(n); got != "" {
					t.Errorf("%q at %d: Take(%d) is %q", s, at, n, got)
				}
				isWrong(t, "Take", r)
			}
		}
	}
}

// P1.2: at the end nothing can be taken yet, and that is right.
func TestTakeNothingAtTheEnd(t *testing.T) {
	r := octet.New("")
	for range 3 {
		if r.Take(0) != "" {
			t.Error("Take(0) tells bytes")
		}
		isRight(t, "Take(0)", r, 0)
	}
}

// P1.2: Num reads four bytes, and no more.
func TestNumReads(t *testing.T) {
	for _, n := range numbers() {
		r := octet.New(octet.Num(n) + "abc")
		if got := r.Num(); got != n {
			t.Errorf("Num is %d, not %d", got, n)
		}
		isRight(t, "Num", r, 3)
		if got := r.Num(); got != 0 {
			t.Errorf("Num of three bytes is %d", got)
		}
		isWrong(t, "Num of three bytes", r)
	}
	for n := range 4 {
		r := octet.New("\x01\x02\x03"[:n])
		if got := r.Num(); got != 0 {
			t.Errorf("Num of %d bytes is %d", n, got)
		}
		isWrong(t, "Num", r)
	}
}

// P1.2: Text takes texts of at most so many bytes, and leaves what is behind them.
func TestTextReads(t *testing.T) {
	for _, s := range texts() {
		for _, most := range []int{len(s), len(s) + 1, math.MaxInt32, math.MaxInt} {
			r := octet.New(octet.Text(s) + "xy")
			if got := r.Text(most); got != s {
				t.Errorf("Text(%d) of %d bytes has %d", most, len(s), len(got))
			}
			isRight(t, "Text", r, 2)
		}
		for _, most := range []int{len(s) - 1, -1, math.MinInt32, math.MinInt} {
			r := octet.New(octet.Text(s) + "xy")
			if got := r.Text(most); got != "" {
				t.Errorf("Text(%d) of %d bytes has %d", most, len(s), len(got))
			}
			isWrong(t, "Text", r)
		}
	}
}

// P1.2: lengths that tell more than is there, up to the end of their type.
func TestTextLongerThanLeft(t *testing.T) {
	for _, n := range []uint32{3, 4, 255, 1 << 16, 1<<31 - 1, 1 << 31, 1<<32 - 2, 1<<32 - 1} {
		for _, most := range []int{2, int(min(n, math.MaxInt32)), math.MaxInt32, math.MaxInt} {
			r := octet.New(octet.Num(n) + "ab")
			if got := r.Text(most); got != "" {
				t.Errorf("Text(%d) told %d is %q", most, n, got)
			}
			isWrong(t, "Text", r)
		}
	}
}

// P1.2: the chapter's examples.
func TestExamples(t *testing.T) {
	if octet.Num(258) != "\x02\x01\x00\x00" || octet.Text("hi") != "\x02\x00\x00\x00\x68\x69" {
		t.Error("written otherwise")
	}
	r := octet.New(octet.Text("hi"))
	if r.Text(1) != "" {
		t.Error("Text(1) tells bytes")
	}
	isWrong(t, "Text(1)", r)
	r = octet.New(octet.Text("hi"))
	if r.Text(2) != "hi" {
		t.Error("Text(2) is another text")
	}
	isRight(t, "Text(2)", r, 0)
}

// P1.3: each way to go wrong, with bytes left that were good, and at the end.
func TestOnceWrongAlwaysWrong(t *testing.T) {
	good := octet.Text("hello") + octet.Num(7)
	for what, spoil := range map[string]func(r *octet.Reader){
		"Spoil":         func(r *octet.Reader) { r.Spoil() },
		"Take below 0":  func(r *octet.Reader) { r.Take(-1) },
		"Take too much": func(r *octet.Reader) { r.Take(r.Left() + 1) },
		"Text above":    func(r *octet.Reader) { r.Text(4) },
		"Text below 0":  func(r *octet.Reader) { r.Text(-1) },
		"Num at the end": func(r *octet.Reader) {
			r.Take(r.Left() - 3)
			r.Num()
		},
		"Text at the end": func(r *octet.Reader) {
			r.Take(r.Left())
			r.Text(9)
		},
		"Spoil at the end": func(r *octet.Reader) {
			r.Take(r.Left())
			r.Spoil()
		},
	} {
		r, other := octet.New(good), octet.New(good)
		spoil(r)
		isWrong(t, what, r)
		isRight(t, what+", another reader", other, len(good))
	}
}

// P1.3: a nil reader is as if it had gone wrong.
func TestNilReader(t *testing.T) {
	var r *octet.Reader
	isWrong(t, "nil", r)
}

// P1.3: to ask changes nothing.
func TestAskingChangesNothing(t *testing.T) {
	r := octet.New("abc")
	for left := 3; left >= 0; left-- {
		isRight(t, "asked once", r, left)
		isRight(t, "asked twice", r, left)
		if left > 0 && r.Take(1) != "abc"[3-left:4-left] {
			t.Error("another byte")
		}
	}
}

// part is a number or a text of a row.
type part struct {
	isText bool
	num    uint32
	text   string
}

func row() []part {
	var list []part
	for k, n := range numbers() {
		list = append(list, part{num: n})
		if k%3 == 0 {
			list = append(list, part{isText: true, text: strings.Repeat("\x00t", k)})
		}
	}
	for _, s := range texts()[:8] {
		list = append(list, part{isText: true, text: s}, part{isText: true, text: octet.Text(s)})
	}
	return list
}

func write(list []part) string {
	var b strings.Builder
	for _, p := range list {
		if p.isText {
			b.WriteString(octet.Text(p.text))
		} else {
			b.WriteString(octet.Num(p.num))
		}
	}
	return b.String()
}

// readRow answers how many parts were read as they were ahead of the first that wasn't.
func readRow(r *octet.Reader, list []part) int {
	for k, p := range list {
		if p.isText {
			if r.Text(len(p.text)) != p.text || r.Bad() {
				return k
			}
		} else if r.Num() != p.num || r.Bad() {
			return k
		}
	}
	return len(list)
}

// P1.4: what was written one behind the other is read as it was.
func TestReadAsWritten(t *testing.T) {
	list := row()
	r := octet.New(write(list))
	if k := readRow(r, list); k != len(list) {
		t.Errorf("part %d of %d: %+v", k, len(list), list[k])
	}
	isRight(t, "row", r, 0)
	r = octet.New(write(list) + "more")
	if k := readRow(r, list); k != len(list) {
		t.Errorf("with more behind, part %d", k)
	}
	isRight(t, "row with more", r, 4)
}

// P1.4: cut off at every place, the parts ahead of the cut are read, and the first that is cut goes wrong.
func TestCutOffGoesWrong(t *testing.T) {
	list := row()
	whole := write(list)
	ends := make([]int, len(list))
	for k := range list {
		ends[k] = len(write(list[:k+1]))
	}
	done := 0
	for cut := range whole {
		for done < len(ends) && ends[done] <= cut {
			done++
		}
		r := octet.New(whole[:cut])
		if k := readRow(r, list); k != done {
			t.Fatalf("cut at %d: %d parts were read, not %d", cut, k, done)
		}
		isWrong(t, "cut", r)
	}
}

// model is a reader as the chapter's words have it.
type model struct {
	s     string
	at    int
	wrong bool
}

func (m *model) take(n int) string {
	if m.wrong || n < 0 || n > len(m.s)-m.at {
		m.wrong = true
		return ""
	}
	m.at += n
	return m.s[m.at-n : m.at]
}

func (m *model) num() uint32 {
	var n uint32
	for _, c := range slices.Backward([]byte(m.take(4))) {
		n = n*256 + uint32(c)
	}
	return n
}

func (m *model) text(most int) string {
	n := m.num()
	if m.wrong || int64(n) > int64(most) {
		m.wrong = true
		return ""
	}
	return m.take(int(n))
}

// doBoth carries one call out at both readers, and tells whether they answered alike.
func doBoth(r *octet.Reader, m *model, call int) bool {
	switch call {
	case 0:
		return r.Num() == m.num()
	case 1, 2, 3:
		return r.Text(call-1) == m.text(call-1)
	case 4, 5, 6, 7:
		return r.Take(call-5) == m.take(call-5)
	default:
		r.Spoil()
		m.wrong = true
		return true
	}
}

// P1.2, P1.3: all rows of four calls answer what the model does.
func TestRowsOfCalls(t *testing.T) {
	const kinds, rows = 9, 9 * 9 * 9 * 9
	for _, s := range []string{"", "\x00", "\x01\x00\x00\x00a", "\x00\x00\x00\x00\x02\x00\x00\x00ab\x01\x00\x00\x00", "\x03\x00\x00\x00abcdefgh", "\xff\xff\xff\xff\xff\xff\xff\xff"} {
		for code := range rows {
			r, m := octet.New(s), &model{s: s}
			for rest := code + rows; rest >= kinds; rest /= kinds {
				alike := doBoth(r, m, rest%kinds)
				left := len(s) - m.at
				if m.wrong {
					left = 0
				}
				if !alike || r.Bad() != m.wrong || r.Left() != left || r.Whole() != (!m.wrong && left == 0) {
					t.Fatalf("%q, row %d", s, code)
				}
			}
		}
	}
}
