package pack_test

import (
	"math"
	"math/big"
	"slices"
	"strings"
	"testing"
	"unsafe"

	"chandler/api"
	"chandler/pack"
)

// outside are places at which no text has a byte.
var outside = []int{math.MinInt, math.MinInt + 1, -9, -8, -1, math.MaxInt - 8, math.MaxInt - 1, math.MaxInt}

// naturals are 0, the greatest number, and those about each power of 2.
func naturals() []uint64 {
	all := []uint64{0, 3, 5, 100, 300, 1000000, 0x0123456789abcdef}
	for bit := range 64 {
		p := uint64(1) << bit
		all = append(all, p-1, p, p+1, -p, -p-1)
	}
	return all
}

// integers are the least number, the greatest one, and those about each power of 2, rising.
func integers() []int64 {
	var all []int64
	for _, u := range naturals() {
		all = append(all, int64(u))
	}
	slices.Sort(all)
	return slices.Compact(all)
}

// digitsOf are the digits of a number from 0 on to the base 128, the lowest first, as few as can be.
func digitsOf(n *big.Int) []byte {
	base, rest, digit := big.NewInt(128), new(big.Int).Set(n), new(big.Int)
	var digits []byte
	for len(digits) == 0 || rest.Sign() > 0 {
		rest.DivMod(rest, base, digit)
		digits = append(digits, byte(digit.Int64()))
	}
	return digits
}

// oneForm is what the chapter's words say of the one form of a number.
func oneForm(n *big.Int) string {
	digits := digitsOf(n)
	for i := range len(digits) - 1 {
		digits[i] += 128
	}
	return string(digits)
}

// signed is the number whose one form that of a number with a sign is.
func signed(v int64) *big.Int {
	n := new(big.Int).Mul(big.NewInt(2), big.NewInt(v))
	if v < 0 {
		return n.Neg(n).Sub(n, big.NewInt(1))
	}
	return n
}

// orderedForm is what the chapter's words say of the ordered form.
func orderedForm(v int64) string {
	n := new(big.Int).Lsh(big.NewInt(1), 63)
	return string(n.Add(n, big.NewInt(v)).FillBytes(make([]byte, 8)))
}

// readNumber is what the words of P2.2 say of ReadUint, with a number of any size.
func readNumber(s string, at int) (uint64, int, api.Errno) {
	if at < 0 || at >= len(s) {
		return 0, 0, api.ErrShort
	}
	rest := s[at:]
	last := 0
	for last < len(rest) && rest[last] >= 128 {
		last++
	}
	if last == len(rest) && last < 10 {
		return 0, 0, api.ErrShort
	}
	if last >= 10 || last > 0 && rest[last] == 0 {
		return 0, 0, api.ErrForm
	}
	n := new(big.Int)
	for i := last; i >= 0; i-- {
		n.Lsh(n, 7).Add(n, big.NewInt(int64(rest[i]%128)))
	}
	if !n.IsUint64() {
		return 0, 0, api.ErrForm
	}
	return n.Uint64(), at + last + 1, api.OK
}

func wantUint(t *testing.T, s string, at int, v uint64, behind int, e api.Errno) {
	t.Helper()
	if w, b, f := pack.ReadUint(s, at); w != v || b != behind || f != e {
		t.Errorf("ReadUint(%q, %d) = %d, %d, %d, want %d, %d, %d", s, at, w, b, f, v, behind, e)
	}
}

func wantInt(t *testing.T, s string, at int, v int64, behind int, e api.Errno) {
	t.Helper()
	if w, b, f := pack.ReadInt(s, at); w != v || b != behind || f != e {
		t.Errorf("ReadInt(%q, %d) = %d, %d, %d, want %d, %d, %d", s, at, w, b, f, v, behind, e)
	}
}

func wantText(t *testing.T, s string, at int, v string, behind int, e api.Errno) {
	t.Helper()
	if w, b, f := pack.ReadText(s, at); w != v || b != behind || f != e {
		t.Errorf("ReadText(%q, %d) = %d bytes, %d, %d, want %d bytes, %d, %d", begin(s), at, len(w), b, f, len(v), behind, e)
	}
}

func wantOrdered(t *testing.T, s string, at int, v int64, behind int, e api.Errno) {
	t.Helper()
	if w, b, f := pack.ReadOrdered(s, at); w != v || b != behind || f != e {
		t.Errorf("ReadOrdered(%q, %d) = %d, %d, %d, want %d, %d, %d", s, at, w, b, f, v, behind, e)
	}
}

// wantNoNumber asks all that read a number of digits first, for they have its errors.
func wantNoNumber(t *testing.T, s string, at int, e api.Errno) {
	t.Helper()
	wantUint(t, s, at, 0, 0, e)
	wantInt(t, s, at, 0, 0, e)
	wantText(t, s, at, "", 0, e)
}

func begin(s string) string { return s[:min(len(s), 16)] }

func same(t *testing.T, what, got, want string) {
	t.Helper()
	if got != want {
		t.Errorf("%s = %q, want %q", what, got, want)
	}
}

// TestForms holds P2.1 by forms that are written out.
func TestForms(t *testing.T) {
	same(t, "Uint(0)", pack.Uint(0), "\x00")
	same(t, "Uint(1)", pack.Uint(1), "\x01")
	same(t, "Uint(127)", pack.Uint(127), "\x7f")
	same(t, "Uint(128)", pack.Uint(128), "\x80\x01")
	same(t, "Uint(300)", pack.Uint(300), "\xac\x02")
	same(t, "Uint(16383)", pack.Uint(16383), "\xff\x7f")
	same(t, "Uint(16384)", pack.Uint(16384), "\x80\x80\x01")
	same(t, "Uint(2^63)", pack.Uint(1<<63), strings.Repeat("\x80", 9)+"\x01")
	same(t, "Uint(2^64-1)", pack.Uint(math.MaxUint64), strings.Repeat("\xff", 9)+"\x01")
	same(t, "Int(0)", pack.Int(0), "\x00")
	same(t, "Int(-1)", pack.Int(-1), "\x01")
	same(t, "Int(1)", pack.Int(1), "\x02")
	same(t, "Int(-2)", pack.Int(-2), "\x03")
	same(t, "Int(63)", pack.Int(63), "\x7e")
	same(t, "Int(-64)", pack.Int(-64), "\x7f")
	same(t, "Int(64)", pack.Int(64), "\x80\x01")
	same(t, "Int(150)", pack.Int(150), "\xac\x02")
	same(t, "Int of the greatest", pack.Int(math.MaxInt64), "\xfe"+strings.Repeat("\xff", 8)+"\x01")
	same(t, "Int of the least", pack.Int(math.MinInt64), strings.Repeat("\xff", 9)+"\x01")
	same(t, "Ordered(0)", pack.Ordered(0), "\x80\x00\x00\x00\x00\x00\x00\x00")
	same(t, "Ordered(1)", pack.Ordered(1), "\x80\x00\x00\x00\x00\x00\x00\x01")
	same(t, "Ordered(258)", pack.Ordered(258), "\x80\x00\x00\x00\x00\x00\x01\x02")
	same(t, "Ordered(-1)", pack.Ordered(-1), "\x7f\xff\xff\xff\xff\xff\xff\xff")
	same(t, "Ordered of the greatest", pack.Ordered(math.MaxInt64), strings.Repeat("\xff", 8))
	same(t, "Ordered of the least", pack.Ordered(math.MinInt64), strings.Repeat("\x00", 8))
}

// TestFormsByWords holds P2.1 by the chapter's words, reckoned with numbers of any size.
func TestFormsByWords(t *testing.T) {
	for _, v := range naturals() {
		same(t, "Uint", pack.Uint(v), oneForm(new(big.Int).SetUint64(v)))
	}
	for _, v := range integers() {
		same(t, "Int", pack.Int(v), oneForm(signed(v)))
		same(t, "Ordered", pack.Ordered(v), orderedForm(v))
	}
}

// TestReadBack holds P2.2 of numbers that stand there, alone and between other bytes.
func TestReadBack(t *testing.T) {
	for _, ahead := range []string{"", "\x00", "\x80", "\xff\xff", strings.Repeat("\x80", 12)} {
		for _, after := range []string{"", "\x00", "\x01", "\x80", "\xff\xff", strings.Repeat("\xff", 12)} {
			at := len(ahead)
			for _, v := range naturals() {
				form := pack.Uint(v)
				wantUint(t, ahead+form+after, at, v, at+len(form), api.OK)
			}
			for _, v := range integers() {
				form := pack.Int(v)
				wantInt(t, ahead+form+after, at, v, at+len(form), api.OK)
				wantOrdered(t, ahead+pack.Ordered(v)+after, at, v, at+8, api.OK)
			}
		}
	}
}

// TestReadSeveral holds that the place behind one is where the next one stands.
func TestReadSeveral(t *testing.T) {
	s := pack.Uint(300) + pack.Int(-300) + pack.Text("") + pack.Text("a\x00b") + pack.Ordered(-7) + pack.Uint(0)
	wantUint(t, s, 0, 300, 2, api.OK)
	wantInt(t, s, 2, -300, 4, api.OK)
	wantText(t, s, 4, "", 5, api.OK)
	wantText(t, s, 5, "a\x00b", 9, api.OK)
	wantOrdered(t, s, 9, -7, 17, api.OK)
	wantUint(t, s, 17, 0, 18, api.OK)
	wantNoNumber(t, s, 18, api.ErrShort)
}

// TestReadNumberRefused holds P2.2's errors of ReadUint and ReadInt, and P2.3's of a length, by bytes that are written out.
func TestReadNumberRefused(t *testing.T) {
	nine := strings.Repeat("\x80", 9)
	cases := []struct {
		s  string
		at int
		e  api.Errno
	}{
		{"", 0, api.ErrShort}, {"a", 1, api.ErrShort}, {"a", 2, api.ErrShort}, {"abc", -1, api.ErrShort},
		{"\x80", 0, api.ErrShort}, {"\xff", 0, api.ErrShort}, {"\x00\xac", 1, api.ErrShort},
		{nine, 0, api.ErrShort}, {strings.Repeat("\xff", 9), 0, api.ErrShort}, {"a" + nine, 1, api.ErrShort},
		{"\x80\x00", 0, api.ErrForm}, {"\xff\x00", 0, api.ErrForm}, {"\xac\x82\x00", 0, api.ErrForm},
		{"\x80\x00\x01", 0, api.ErrForm}, {"a\x80\x00", 1, api.ErrForm}, {nine[:8] + "\x00", 0, api.ErrForm},
		{nine + "\x00", 0, api.ErrForm}, {nine + "\x02", 0, api.ErrForm}, {nine + "\x03", 0, api.ErrForm},
		{nine + "\x40", 0, api.ErrForm}, {nine + "\x7f", 0, api.ErrForm},
		{nine + "\x80", 0, api.ErrForm}, {nine + "\x81", 0, api.ErrForm}, {strings.Repeat("\xff", 10), 0, api.ErrForm},
		{nine + "\x80\x00", 0, api.ErrForm}, {nine + "\x80\x01", 0, api.ErrForm}, {nine + "\x81\x01", 0, api.ErrForm},
		{strings.Repeat("\x80", 40), 0, api.ErrForm}, {strings.Repeat("\x80", 40), 30, api.ErrForm},
		{strings.Repeat("\x80", 40), 31, api.ErrShort}, {strings.Repeat("\x80", 40), 40, api.ErrShort},
	}
	for _, c := range cases {
		wantNoNumber(t, c.s, c.at, c.e)
	}
	for _, at := range outside {
		wantNoNumber(t, "", at, api.ErrShort)
		wantNoNumber(t, "\x01\x01\x01", at, api.ErrShort)
	}
}

// TestReadNumberByWords holds P2.2 of ReadUint and ReadInt at all short texts of some bytes, and behind every count of digits.
func TestReadNumberByWords(t *testing.T) {
	texts, longest := []string{""}, []string{""}
	for range 4 {
		var longer []string
		for _, s := range longest {
			for _, b := range []byte{0, 1, 2, 127, 128, 129, 255} {
				longer = append(longer, s+string([]byte{b}))
			}
		}
		longest = longer
		texts = append(texts, longer...)
	}
	for n := range 13 {
		for _, digit := range []string{"\x80", "\x81", "\xaa", "\xff"} {
			for b := range 256 {
				texts = append(texts, strings.Repeat(digit, n)+string([]byte{byte(b)}), strings.Repeat(digit, n)+string([]byte{byte(b)})+"\x01")
			}
		}
	}
	for _, s := range texts {
		for at := -1; at <= len(s)+1; at++ {
			v, behind, e := readNumber(s, at)
			wantUint(t, s, at, v, behind, e)
			if i, b, f := pack.ReadInt(s, at); b != behind || f != e || e != api.OK && i != 0 {
				t.Errorf("ReadInt(%q, %d) = %d, %d, %d, want %d, %d behind the number", s, at, i, b, f, behind, e)
			} else if e == api.OK && signed(i).Cmp(new(big.Int).SetUint64(v)) != 0 {
				t.Errorf("ReadInt(%q, %d) = %d, whose form isn't that of %d", s, at, i, v)
			}
		}
	}
}

// TestReadOrdered holds P2.2 of ReadOrdered.
func TestReadOrdered(t *testing.T) {
	s := "\x80\x00\x00\x00\x00\x00\x01\x02\x03"
	wantOrdered(t, s, 0, 258, 8, api.OK)
	wantOrdered(t, s, 1, math.MinInt64+0x10203, 9, api.OK)
	for at := 2; at < 12; at++ {
		wantOrdered(t, s, at, 0, 0, api.ErrShort)
	}
	for n := range 8 {
		wantOrdered(t, s[:n], 0, 0, 0, api.ErrShort)
	}
	for _, at := range outside {
		wantOrdered(t, s, at, 0, 0, api.ErrShort)
		wantOrdered(t, "", at, 0, 0, api.ErrShort)
	}
	wantOrdered(t, strings.Repeat("\xff", 8), 0, math.MaxInt64, 8, api.OK)
	wantOrdered(t, strings.Repeat("\x00", 8), 0, math.MinInt64, 8, api.OK)
}

// TestText holds P2.3 of texts that stand there.
func TestText(t *testing.T) {
	same(t, "Text of none", pack.Text(""), "\x00")
	same(t, "Text of x", pack.Text("x"), "\x01x")
	same(t, "Text of bytes that are no runes", pack.Text("\xff\x00\x80"), "\x03\xff\x00\x80")
	for _, n := range []int{0, 1, 2, 126, 127, 128, 129, 300, 16383, 16384, 1 << 20} {
		text := strings.Repeat("\x80\x00z", n/3+1)[:n]
		form := pack.Text(text)
		if form != pack.Uint(uint64(n))+text {
			t.Errorf("Text of %d bytes begins %q", n, begin(form))
		}
		wantText(t, form, 0, text, len(form), api.OK)
		wantText(t, "\x81"+form+"\x00b", 1, text, 1+len(form), api.OK)
	}
}

// TestReadTextRefused holds P2.3 of a length that says more than there is; of a length that is no number, TestReadNumberRefused does.
func TestReadTextRefused(t *testing.T) {
	wantText(t, "\x01", 0, "", 0, api.ErrShort)
	wantText(t, "\x03ab", 0, "", 0, api.ErrShort)
	wantText(t, "\x02ab", 0, "ab", 3, api.OK)
	wantText(t, "\x02ab", 1, "", 0, api.ErrShort)
	wantText(t, "a\x00", 1, "", 2, api.OK)
	long := pack.Text(strings.Repeat("a", 200))
	wantText(t, long[:len(long)-1], 0, "", 0, api.ErrShort)
	wantText(t, long[:2], 0, "", 0, api.ErrShort)
	for _, n := range []uint64{3, 1<<31 - 1, 1 << 31, 1 << 32, 1<<32 + 1, 1<<63 - 1, 1 << 63, 1<<63 + 1, math.MaxUint64 - 1, math.MaxUint64} {
		wantText(t, pack.Uint(n)+"ab", 0, "", 0, api.ErrShort)
		wantText(t, "xy"+pack.Uint(n)+"ab", 2, "", 0, api.ErrShort)
	}
	wantText(t, "\x82\x00ab", 0, "", 0, api.ErrForm)
}

// TestReadTextIsNew holds that what is answered shares no memory with what was handed in.
func TestReadTextIsNew(t *testing.T) {
	form := pack.Text(strings.Repeat("z", 50))
	text, _, _ := pack.ReadText(form, 0)
	if unsafe.StringData(text) == unsafe.StringData(form[1:]) {
		t.Errorf("ReadText answers a piece of what was handed in")
	}
}

// TestOrder holds P2.4.
func TestOrder(t *testing.T) {
	all := integers()
	if all[0] != math.MinInt64 || all[len(all)-1] != math.MaxInt64 {
		t.Fatalf("from %d to %d", all[0], all[len(all)-1])
	}
	for i, low := range all {
		for _, high := range all[i+1:] {
			if pack.Ordered(low) >= pack.Ordered(high) {
				t.Errorf("of %d and %d the lower one's ordered form doesn't come first", low, high)
			}
		}
	}
	for v := int64(-70000); v < 70000; v++ {
		if pack.Ordered(v) >= pack.Ordered(v+1) {
			t.Fatalf("of %d and %d the lower one's ordered form doesn't come first", v, v+1)
		}
	}
}
