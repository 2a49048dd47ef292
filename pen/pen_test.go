package pen_test

import (
	"encoding/binary"
	"fmt"
	"math"
	"math/big"
	"strings"
	"testing"

	"padlock/pen"
)

const greatest = uint64(math.MaxUint64)

// penOf: what a new pen holds, behind what is done with it.
func penOf(do func(p *pen.Pen)) string {
	var p pen.Pen
	do(&p)
	return p.Bytes()
}

func natBytes(n uint64) string  { return penOf(func(p *pen.Pen) { p.Nat(n) }) }
func intBytes(n int) string     { return penOf(func(p *pen.Pen) { p.Int(n) }) }
func textBytes(s string) string { return penOf(func(p *pen.Pen) { p.Text(s) }) }

// groupsOf: a number put in so many groups, needed or not, by its digits of base 128.
func groupsOf(n *big.Int, groups int) string {
	left := new(big.Int).Set(n)
	base := big.NewInt(128)
	var out []byte
	for i := range groups {
		digit := new(big.Int)
		left.QuoRem(left, base, digit)
		b := byte(digit.Int64())
		if i < groups-1 {
			b |= 0x80
		}
		out = append(out, b)
	}
	return string(out)
}

// fewest: in how many groups a number goes at least; nought in one.
func fewest(n *big.Int) int { return max(1, (n.BitLen()+6)/7) }

func bigOf(n uint64) *big.Int { return new(big.Int).SetUint64(n) }

// readNat: what an eye must answer of these bytes, reckoned without a width; of how many bytes it is, 0: there is none.
func readNat(s string, most uint64) (uint64, int) {
	size := 0
	for i := 0; i < len(s) && size == 0; i++ {
		if s[i] < 128 {
			size = i + 1
		}
	}
	n := new(big.Int)
	for i := size - 1; i >= 0; i-- {
		n.Mul(n, big.NewInt(128))
		n.Add(n, big.NewInt(int64(s[i]%128)))
	}
	if size != fewest(n) || n.Cmp(bigOf(most)) > 0 {
		return 0, 0
	}
	return n.Uint64(), size
}

// signed: the number with a sign that a number without one stands for.
func signed(n uint64) int {
	half := new(big.Int).Rsh(bigOf(n), 1)
	if n%2 == 1 {
		half.Neg(half.Add(half, big.NewInt(1)))
	}
	return int(half.Int64())
}

// edgeNats: the ends, all counts of bits, and what lies just beside them.
func edgeNats() []uint64 {
	out := []uint64{0, 1, 2, 3, 300, 16383, 16384, greatest - 1, greatest}
	for bit := range 64 {
		n := uint64(1) << bit
		out = append(out, n-1, n, n+1, greatest-n, greatest<<bit)
	}
	return out
}

// spread answers n words that look like nothing, the same ones each time, of all counts of bits.
func spread(n int) []uint64 {
	out := make([]uint64, n)
	x := uint64(0x9e3779b97f4a7c15)
	for i := range out {
		x ^= x << 13
		x ^= x >> 7
		x ^= x << 17
		out[i] = x >> (i % 64)
	}
	return out
}

func someNats() []uint64 { return append(edgeNats(), spread(2000)...) }

// someTexts: empty ones, bytes of all kinds, and lengths at which the length's number gets one byte more.
func someTexts() []string {
	out := []string{"", "a", "abc", "\x00", "\x80", "\xff\xfe", "ä∞", "\x03abc", "line\nline"}
	for _, n := range []int{126, 127, 128, 129, 300, 16383, 16384, 16385, 1 << 17} {
		out = append(out, strings.Repeat("x\xff", n/2)+strings.Repeat("y", n%2))
	}
	return out
}

// mustBeBad: an eye that answers so from now on, whatever it is asked.
func mustBeBad(t *testing.T, what string, e *pen.Eye) {
	t.Helper()
	for range 2 {
		if !e.Bad() || e.Done() {
			t.Errorf("%s: bad %t, done %t", what, e.Bad(), e.Done())
		}
		for _, most := range []uint64{0, 1, greatest} {
			if n := e.Nat(most); n != 0 {
				t.Errorf("%s: a bad eye reads %d", what, n)
			}
		}
		if n := e.Int(); n != 0 {
			t.Errorf("%s: a bad eye reads %d", what, n)
		}
		for _, most := range []int{math.MinInt, -1, 0, 1, math.MaxInt} {
			if s := e.Text(most); s != "" {
				t.Errorf("%s: a bad eye reads %q", what, s)
			}
		}
	}
}

// mustEndWith77: an eye that isn't bad, with just the number 77 left to read, of one byte.
func mustEndWith77(t *testing.T, what string, e *pen.Eye) {
	t.Helper()
	if e.Bad() || e.Done() {
		t.Errorf("%s: bad %t, done %t ahead of the end", what, e.Bad(), e.Done())
	}
	if n := e.Nat(77); n != 77 || e.Bad() || !e.Done() {
		t.Errorf("%s: behind it %d, bad %t, done %t", what, n, e.Bad(), e.Done())
	}
}

// P2.1

func TestExamplesOfTheChapter(t *testing.T) {
	if got := natBytes(300); got != "\xac\x02" {
		t.Errorf("Nat of 300: %x", got)
	}
	if got := intBytes(-1); got != "\x01" {
		t.Errorf("Int of -1: %x", got)
	}
}

func TestNumbersWithoutASignArePut(t *testing.T) {
	for n, want := range map[uint64]string{0: "\x00", 1: "\x01", 127: "\x7f", 128: "\x80\x01", 16383: "\xff\x7f", 16384: "\x80\x80\x01",
		1 << 62: "\x80\x80\x80\x80\x80\x80\x80\x80\x40", 1 << 63: "\x80\x80\x80\x80\x80\x80\x80\x80\x80\x01",
		greatest: "\xff\xff\xff\xff\xff\xff\xff\xff\xff\x01"} {
		if got := natBytes(n); got != want {
			t.Errorf("Nat(%d): %x, not %x", n, got, want)
		}
	}
	for _, n := range someNats() {
		if got, want := natBytes(n), groupsOf(bigOf(n), fewest(bigOf(n))); got != want {
			t.Errorf("Nat(%d): %x, not %x", n, got, want)
		}
	}
}

func TestNumbersWithASignArePut(t *testing.T) {
	for n, want := range map[int]string{0: "\x00", -1: "\x01", 1: "\x02", -2: "\x03", 2: "\x04", 63: "\x7e", -64: "\x7f", 64: "\x80\x01",
		-65: "\x81\x01", math.MaxInt: "\xfe\xff\xff\xff\xff\xff\xff\xff\xff\x01", math.MinInt: "\xff\xff\xff\xff\xff\xff\xff\xff\xff\x01"} {
		if got := intBytes(n); got != want {
			t.Errorf("Int(%d): %x, not %x", n, got, want)
		}
	}
	for _, n := range someNats() {
		if got, want := intBytes(int(n)), string(binary.AppendVarint(nil, int64(n))); got != want {
			t.Errorf("Int(%d): %x, not %x", int(n), got, want)
		}
	}
}

func TestTextsArePut(t *testing.T) {
	if got := textBytes("abc"); got != "\x03abc" {
		t.Errorf("Text of abc: %x", got)
	}
	for _, s := range someTexts() {
		if got, want := textBytes(s), natBytes(uint64(len(s)))+s; got != want {
			t.Errorf("Text of %d bytes: %d bytes", len(s), len(got))
		}
	}
}

func TestBytesAnswersAllThatWasPut(t *testing.T) {
	var p pen.Pen
	if got := p.Bytes(); got != "" {
		t.Errorf("an empty pen has put %x", got)
	}
	p.Nat(300)
	early := p.Bytes()
	p.Text("")
	p.Int(-2)
	p.Text("hé")
	if got := p.Bytes(); got != "\xac\x02\x00\x03\x03h\xc3\xa9" || got != p.Bytes() {
		t.Errorf("put: %x", got)
	}
	if early != "\xac\x02" {
		t.Errorf("an earlier answer became %x", early)
	}
}

func TestPensKnowNothingOfOneAnother(t *testing.T) {
	var p, q pen.Pen
	p.Nat(1)
	q.Nat(2)
	p.Text("p")
	if p.Bytes() != "\x01\x01p" || q.Bytes() != "\x02" {
		t.Errorf("%x, %x", p.Bytes(), q.Bytes())
	}
}

func TestANilPenPutsNothing(t *testing.T) {
	var p *pen.Pen
	p.Nat(1)
	p.Int(-1)
	p.Text("abc")
	if got := p.Bytes(); got != "" {
		t.Errorf("a nil pen has put %x", got)
	}
}

func TestNumbersWithoutASignAreReadUpToMost(t *testing.T) {
	for _, n := range someNats() {
		what := fmt.Sprintf("Nat of %d", n)
		s := natBytes(n) + "\x4d"
		for _, most := range []uint64{n, max(n, n+1), max(n, n*2), greatest} {
			e := pen.Of(s)
			if got := e.Nat(most); got != n {
				t.Errorf("%s, most %d: %d", what, most, got)
			}
			mustEndWith77(t, what, e)
		}
		for _, most := range []uint64{0, n / 2, n - 1} {
			if n == 0 {
				continue
			}
			e := pen.Of(s)
			if got := e.Nat(most); got != 0 {
				t.Errorf("%s, most %d: %d", what, most, got)
			}
			mustBeBad(t, what, e)
		}
	}
}

func TestNumbersWithASignAreRead(t *testing.T) {
	for _, n := range someNats() {
		what := fmt.Sprintf("Int of %d", n)
		e := pen.Of(natBytes(n) + "\x4d")
		if got := e.Int(); got != signed(n) {
			t.Errorf("%s: %d", what, got)
		}
		mustEndWith77(t, what, e)
	}
}

func TestTextsAreReadUpToMost(t *testing.T) {
	for _, s := range someTexts() {
		what := fmt.Sprintf("a text of %d bytes", len(s))
		for _, most := range []int{len(s), len(s) + 1, math.MaxInt} {
			e := pen.Of(textBytes(s) + "\x4d")
			if got := e.Text(most); got != s {
				t.Errorf("%s, most %d: %q", what, most, got)
			}
			mustEndWith77(t, what, e)
		}
		for _, most := range []int{len(s) - 1, len(s) / 2, 0, -1, -len(s), math.MinInt} {
			if s == "" || most == len(s) {
				continue
			}
			e := pen.Of(textBytes(s) + "\x4d")
			if got := e.Text(most); got != "" {
				t.Errorf("%s, most %d: %q", what, most, got)
			}
			mustBeBad(t, what, e)
		}
	}
}

func TestMostBelowNoughtCountsAsNought(t *testing.T) {
	for _, most := range []int{0, -1, -2, math.MinInt} {
		e := pen.Of("\x00\x4d")
		if got := e.Text(most); got != "" {
			t.Errorf("most %d: %q", most, got)
		}
		mustEndWith77(t, fmt.Sprintf("the empty text, most %d", most), e)
		e = pen.Of("\x01a")
		if got := e.Text(most); got != "" {
			t.Errorf("most %d: %q", most, got)
		}
		mustBeBad(t, fmt.Sprintf("a text of one byte, most %d", most), e)
	}
}

// noNumbers: bytes that no number begins, whatever stands behind them.
func noNumbers() []string {
	out := []string{"", "\x80", "\xff", "\x80\x80", "\xff\xff\xff"}
	for _, n := range edgeNats() {
		small := bigOf(n)
		least := fewest(small)
		for groups := 1; groups < least; groups++ {
			out = append(out, natBytes(n)[:groups])
		}
		for groups := least + 1; groups <= 12; groups++ {
			out = append(out, groupsOf(small, groups))
		}
		// 65 bits and more: in as few bytes as can be, but too great.
		for _, more := range []uint{64, 65, 66, 70, 77, 128} {
			great := new(big.Int).Lsh(big.NewInt(1), more)
			great.Add(great, small)
			out = append(out, groupsOf(great, fewest(great)))
		}
	}
	return append(out, strings.Repeat("\x80", 9)+"\x02", strings.Repeat("\xff", 9)+"\x02", strings.Repeat("\x80", 9)+"\x7f",
		strings.Repeat("\xff", 10), strings.Repeat("\x80", 10), strings.Repeat("\xff", 10)+"\x01", strings.Repeat("\xff", 1000))
}

func TestBytesThatAreNoNumber(t *testing.T) {
	asks := map[string]func(e *pen.Eye) bool{
		"Nat":  func(e *pen.Eye) bool { return e.Nat(greatest) == 0 },
		"Int":  func(e *pen.Eye) bool { return e.Int() == 0 },
		"Text": func(e *pen.Eye) bool { return e.Text(math.MaxInt) == "" },
	}
	for _, s := range noNumbers() {
		for name, ask := range asks {
			for _, ahead := range []string{"", "\x01"} {
				e := pen.Of(ahead + s)
				if ahead != "" && e.Nat(1) != 1 {
					t.Errorf("%x: not 1 ahead", s)
				}
				if !ask(e) {
					t.Errorf("%s of %x: something is read", name, s)
				}
				mustBeBad(t, fmt.Sprintf("%s of %x", name, s), e)
			}
		}
	}
}

func TestANumberTooLongIsBadWhateverIsBehindIt(t *testing.T) {
	for _, s := range []string{"\x80\x00", "\x81\x80\x00", strings.Repeat("\xff", 9) + "\x02", strings.Repeat("\xff", 10) + "\x00"} {
		e := pen.Of(s + "\x01\x01\x01\x01")
		if got := e.Nat(greatest); got != 0 {
			t.Errorf("%x: %d", s, got)
		}
		mustBeBad(t, fmt.Sprintf("%x", s), e)
	}
}

func TestTextsThatBreakOff(t *testing.T) {
	for _, s := range someTexts() {
		whole := textBytes(s)
		for _, cut := range []int{1, 2, len(s) / 2, len(s), len(whole)} {
			if cut == 0 || cut > len(whole) {
				continue
			}
			e := pen.Of(whole[:len(whole)-cut])
			if got := e.Text(math.MaxInt); got != "" {
				t.Errorf("%d bytes less %d: %q", len(whole), cut, got)
			}
			mustBeBad(t, fmt.Sprintf("%d bytes less %d", len(whole), cut), e)
		}
	}
	for _, size := range []uint64{4, 1 << 31, 1 << 32, math.MaxInt - 1, math.MaxInt, math.MaxInt + 1, 1<<63 + 3, greatest} {
		e := pen.Of(natBytes(size) + "abc")
		if got := e.Text(math.MaxInt); got != "" {
			t.Errorf("3 bytes of %d: %q", size, got)
		}
		mustBeBad(t, fmt.Sprintf("3 bytes of %d", size), e)
	}
}

func TestDoneAndBad(t *testing.T) {
	e := pen.Of("")
	if !e.Done() || e.Bad() {
		t.Errorf("of no bytes: done %t, bad %t", e.Done(), e.Bad())
	}
	e = pen.Of("\x02\x00\x01a")
	for i, ask := range []func() bool{
		func() bool { return e.Nat(2) == 2 },
		func() bool { return e.Int() == 0 },
		func() bool { return e.Text(1) == "a" },
	} {
		if e.Done() || e.Bad() {
			t.Errorf("ahead of %d: done %t, bad %t", i, e.Done(), e.Bad())
		}
		if !ask() {
			t.Errorf("%d isn't read", i)
		}
	}
	if !e.Done() || e.Bad() {
		t.Errorf("at the end: done %t, bad %t", e.Done(), e.Bad())
	}
	e.Nat(greatest)
	mustBeBad(t, "beyond the end", e)
}

func TestBeyondTheEndEveryAskIsBad(t *testing.T) {
	for name, ask := range map[string]func(e *pen.Eye){
		"Nat":  func(e *pen.Eye) { e.Nat(0) },
		"Int":  func(e *pen.Eye) { e.Int() },
		"Text": func(e *pen.Eye) { e.Text(0) },
	} {
		for _, s := range []string{"", "\x00", "\x01"} {
			e := pen.Of(s)
			if s != "" {
				e.Nat(1)
			}
			if !e.Done() {
				t.Errorf("%x: not done", s)
			}
			ask(e)
			mustBeBad(t, name+" beyond the end", e)
		}
	}
}

func TestABadEyeReadsNothingOfWhatIsThere(t *testing.T) {
	e := pen.Of("\x05\x01\x01\x01a")
	if got := e.Nat(4); got != 0 {
		t.Errorf("above most: %d", got)
	}
	mustBeBad(t, "with more behind it", e)
	e = pen.Of("\x05abcde\x01")
	if got := e.Text(4); got != "" {
		t.Errorf("above most: %q", got)
	}
	mustBeBad(t, "with more behind it", e)
}

func TestANilEyeIsBad(t *testing.T) {
	var e *pen.Eye
	mustBeBad(t, "a nil eye", e)
}

func TestEyesKnowNothingOfOneAnother(t *testing.T) {
	s := "\x01\x02"
	a, b := pen.Of(s), pen.Of(s)
	a.Nat(0)
	if !a.Bad() || b.Bad() || b.Nat(1) != 1 || b.Nat(2) != 2 || !b.Done() {
		t.Error("one eye's reading is seen by another")
	}
}

// P2.2

// part is something to put, and to read again.
type part struct {
	kind int
	nat  uint64
	text string
}

func (q part) put(p *pen.Pen) {
	switch q.kind {
	case 0:
		p.Nat(q.nat)
	case 1:
		p.Int(int(q.nat))
	default:
		p.Text(q.text)
	}
}

// read: the next thing of this kind, whatever it is.
func (q part) read(e *pen.Eye) part {
	switch q.kind {
	case 0:
		return part{kind: 0, nat: e.Nat(greatest)}
	case 1:
		return part{kind: 1, nat: uint64(e.Int())}
	}
	return part{kind: 2, text: e.Text(math.MaxInt)}
}

func someParts() []part {
	texts := someTexts()
	var out []part
	for i, n := range someNats() {
		out = append(out, part{kind: 0, nat: n}, part{kind: 1, nat: n})
		if i%10 == 0 {
			out = append(out, part{kind: 2, text: texts[i/10%len(texts)]})
		}
	}
	return out
}

func TestWhatWasPutIsReadAgain(t *testing.T) {
	parts := someParts()
	var p pen.Pen
	for i, q := range parts {
		q.put(&p)
		e := pen.Of(penOf(q.put))
		if got := q.read(e); got != q || !e.Done() {
			t.Errorf("part %d alone: %v", i, got.nat)
		}
	}
	e := pen.Of(p.Bytes())
	for i, q := range parts {
		if got := q.read(e); got != q || e.Bad() || e.Done() != (i == len(parts)-1) {
			t.Fatalf("part %d: %v, bad %t, done %t", i, got.nat, e.Bad(), e.Done())
		}
	}
}

// mustPutAsRead reads all of these bytes, kinds in turn, and holds what is put of it against just what was read.
func mustPutAsRead(t *testing.T, s string, kinds ...int) {
	t.Helper()
	e := pen.Of(s)
	var p pen.Pen
	for i := 0; !e.Done(); i++ {
		q := part{kind: kinds[i%len(kinds)]}.read(e)
		if e.Bad() {
			break
		}
		q.put(&p)
		if !strings.HasPrefix(s, p.Bytes()) {
			t.Fatalf("%x, read as %v: put as %x", s, kinds, p.Bytes())
		}
	}
	if e.Done() && p.Bytes() != s {
		t.Fatalf("%x, read as %v to the end: put as %x", s, kinds, p.Bytes())
	}
}

// mustReadAsReckoned holds Nat against what is reckoned without a width.
func mustReadAsReckoned(t *testing.T, s string) {
	t.Helper()
	for _, most := range []uint64{greatest, 1 << 20, 127} {
		want, size := readNat(s, most)
		e := pen.Of(s)
		if got := e.Nat(most); got != want || e.Bad() != (size == 0) || e.Done() != (size == len(s) && size > 0) {
			t.Fatalf("Nat(%d) of %x: %d, bad %t, done %t; not %d of %d bytes", most, s, got, e.Bad(), e.Done(), want, size)
		}
	}
}

func mustAllHold(t *testing.T, s string) {
	t.Helper()
	mustReadAsReckoned(t, s)
	mustPutAsRead(t, s, 0)
	mustPutAsRead(t, s, 1)
	mustPutAsRead(t, s, 2)
	mustPutAsRead(t, s, 0, 2, 1)
}

func TestWhatIsReadOfAllShortBytesIsPutAsThese(t *testing.T) {
	mustAllHold(t, "")
	for a := range 256 {
		mustAllHold(t, string([]byte{byte(a)}))
		for b := range 256 {
			mustAllHold(t, string([]byte{byte(a), byte(b)}))
		}
	}
	// Of three bytes and four the ones at which something turns.
	turns := []byte{0x00, 0x01, 0x02, 0x03, 0x7f, 0x80, 0x81, 0xfe, 0xff}
	for _, a := range turns {
		for _, b := range turns {
			for _, c := range turns {
				mustAllHold(t, string([]byte{a, b, c}))
				for _, d := range turns {
					mustAllHold(t, string([]byte{a, b, c, d}))
				}
			}
		}
	}
}

func TestWhatIsReadOfAnyBytesIsPutAsThese(t *testing.T) {
	for _, s := range noNumbers() {
		mustAllHold(t, s)
	}
	for size := range 14 {
		for _, w := range spread(600) {
			// Mostly bytes that go on, so that long numbers come up.
			out := make([]byte, size)
			for i := range out {
				w = w*6364136223846793005 + 1442695040888963407
				out[i] = byte(w >> 56)
				if w>>40%8 != 0 {
					out[i] |= 0x80
				}
			}
			mustAllHold(t, string(out))
			if size > 0 {
				out[size-1] %= 4
				mustAllHold(t, string(out))
			}
		}
	}
}
