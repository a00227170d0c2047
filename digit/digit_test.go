package digit

import (
	"bytes"
	"math"
	"strings"
	"testing"

	"interleaf/api"
)

// numbers are at the edges of how many digits there are, and between them.
func numbers() []int {
	l := []int{0, 1, 2, 63, 64, 126, 127, 300, 5000, math.MaxInt32, math.MaxInt - 1, math.MaxInt}
	for bit := 7; bit < 63; bit += 7 {
		l = append(l, 1<<bit-1, 1<<bit, 1<<bit+1)
	}
	return l
}

func TestPenLaysNumbers(t *testing.T) { // P1.1
	for _, c := range []struct {
		n    int
		want string
	}{
		{0, "\x80"},
		{1, "\x81"},
		{127, "\xff"},
		{128, "\x00\x81"},
		{300, "\x2c\x82"},
		{16383, "\x7f\xff"},
		{16384, "\x00\x00\x81"},
		{1 << 56, "\x00\x00\x00\x00\x00\x00\x00\x00\x81"},
		{math.MaxInt, "\x7f\x7f\x7f\x7f\x7f\x7f\x7f\x7f\xff"},
	} {
		if got := new(Pen).Num(c.n).P; string(got) != c.want {
			t.Errorf("Num(%d) = %x, not %x", c.n, got, c.want)
		}
	}
}

func TestPenNumEndsBelowNought(t *testing.T) { // P1
	for _, n := range []int{-1, -127, -128, -129, math.MinInt} {
		new(Pen).Num(n)
	}
}

func TestPenLaysTextsAndBytes(t *testing.T) { // P1.1
	long := strings.Repeat("x", 300)
	for s, want := range map[string]string{"": "\x80", "a": "\x81a", "h\xc3\xa4\x00\xff": "\x85h\xc3\xa4\x00\xff", long: "\x2c\x82" + long} {
		if got := new(Pen).Text(s).P; string(got) != want {
			t.Errorf("Text(%q) = %x", s, got)
		}
		if got := new(Pen).Raw([]byte(s)).P; string(got) != s {
			t.Errorf("Raw(%q) = %x", s, got)
		}
	}
	if p := new(Pen).Raw(nil).P; len(p) != 0 {
		t.Errorf("Raw(nil) = %x", p)
	}
}

func TestPenLaysBehind(t *testing.T) { // P1.1
	w := &Pen{P: []byte("ab")}
	if w.Num(5) != w || w.Text("c") != w || w.Raw([]byte{0, 9}) != w {
		t.Error("another Pen is answered")
	}
	if want := "ab\x85\x81c\x00\x09"; string(w.P) != want {
		t.Errorf("%x, not %x", w.P, want)
	}
	w.Raw(w.P)
	if want := "ab\x85\x81c\x00\x09ab\x85\x81c\x00\x09"; string(w.P) != want {
		t.Errorf("its own bytes: %x, not %x", w.P, want)
	}
}

func TestPenKeepsNothingOfRaw(t *testing.T) { // P2
	p := []byte("abc")
	w := new(Pen).Raw(p)
	w.Num(1)
	if string(p) != "abc" {
		t.Errorf("handed in, and changed: %q", p)
	}
	p[0] = 'x'
	if string(w.P) != "abc\x81" {
		t.Errorf("%q", w.P)
	}
}

func TestEyeTakesNumbers(t *testing.T) { // P1.2
	for _, n := range numbers() {
		p := new(Pen).Num(n).P
		for _, most := range []int{n, math.MaxInt} {
			x := NewEye(p)
			if got := x.Num(most); got != n || x.End() != api.OK || x.Left() != 0 {
				t.Errorf("%d of at most %d: %d, %d", n, most, got, x.End())
			}
		}
		if n == 0 {
			continue
		}
		for _, most := range []int{n - 1, 0, -1, math.MinInt} {
			x := NewEye(p)
			if got := x.Num(most); got != 0 || x.Fault() != api.ErrLong || x.Left() != 0 {
				t.Errorf("%d of at most %d: %d, %d", n, most, got, x.Fault())
			}
		}
	}
}

func TestEyeNumMostBelowNought(t *testing.T) { // P1.2
	for _, most := range []int{0, -1, math.MinInt} {
		x := NewEye([]byte{0x80})
		if x.Num(most) != 0 || x.End() != api.OK {
			t.Errorf("0 of at most %d: %d", most, x.End())
		}
	}
}

func TestEyeNumFaults(t *testing.T) { // P1.2
	open := func(n int) string { return strings.Repeat("\x7f", n) }
	noughts := func(n int) string { return strings.Repeat("\x00", n) }
	for _, c := range []struct {
		p    string
		most int
		want api.Errno
	}{
		{"", 10, api.ErrShort},
		{"\x00", 10, api.ErrShort},
		{"\x7f", 10, api.ErrShort},           // above 10 already, but that its last digit tells
		{open(9), math.MaxInt, api.ErrShort}, // no tenth digit is there
		{noughts(9), 0, api.ErrShort},
		{"\x00\x80", 10, api.ErrForm}, // 0, of two digits
		{"\x05\x80", 10, api.ErrForm}, // 5, of two digits
		{"\x7f\x80", 10, api.ErrForm}, // ahead of ErrLong
		{noughts(8) + "\x80", 10, api.ErrForm},
		{noughts(9) + "\x80", 10, api.ErrForm}, // a tenth digit
		{noughts(9) + "\x81", math.MaxInt, api.ErrForm},
		{open(9) + "\x81", 10, api.ErrForm},
		{open(10), 10, api.ErrForm}, // sure ahead of where the bytes end
		{open(40), 10, api.ErrForm},
		{open(9) + "\x80\x80", 10, api.ErrForm},
		{"\x8b", 10, api.ErrLong},
		{"\x8b\x00", 10, api.ErrLong}, // what is behind doesn't count
		{"\x00\x81", 127, api.ErrLong},
		{open(8) + "\xff", math.MaxInt - 1, api.ErrLong},
		{noughts(8) + "\x81", 10, api.ErrLong},
	} {
		x := NewEye([]byte(c.p))
		if got := x.Num(c.most); got != 0 || x.Fault() != c.want || x.End() != c.want || x.Left() != 0 {
			t.Errorf("%x of at most %d: %d, %d, not %d", c.p, c.most, got, x.Fault(), c.want)
		}
		x = NewEye([]byte(c.p))
		if got := x.Text(c.most); got != "" || x.Fault() != c.want || x.Left() != 0 {
			t.Errorf("%x: Text(%d) = %q, %d, not %d", c.p, c.most, got, x.Fault(), c.want)
		}
	}
}

// Of all bytes up to three digits an Eye takes just those that a Pen lays.
func TestEyeTakesWhatAPenLays(t *testing.T) { // P1.2
	const most = 1<<21 - 1
	some := []byte{0, 1, 2, 63, 64, 126, 127, 128, 129, 130, 191, 192, 254, 255}
	for _, a := range some {
		for _, b := range some {
			for _, c := range some {
				p := []byte{a, b, c}
				x := NewEye(p)
				n := x.Num(most)
				laid := new(Pen).Num(n).P
				if x.Fault() == api.OK && (!bytes.HasPrefix(p, laid) || x.Left() != len(p)-len(laid)) {
					t.Errorf("%x: %d, %d left", p, n, x.Left())
				}
				want := api.OK
				switch {
				case a >= 128:
				case b >= 129:
				case b == 128:
					want = api.ErrForm
				case c >= 129:
				case c == 128:
					want = api.ErrForm
				default:
					want = api.ErrShort
				}
				if x.Fault() != want {
					t.Errorf("%x: %d, not %d", p, x.Fault(), want)
				}
			}
		}
	}
}

func TestEyeTexts(t *testing.T) { // P1.2
	for _, s := range []string{"", "a", "h\xc3\xa4\x00\xff", strings.Repeat("x", 127), strings.Repeat("x", 300)} {
		p := new(Pen).Text(s).Raw([]byte("!")).P
		x := NewEye(p)
		if got := x.Text(len(s)); got != s || x.Fault() != api.OK || x.Left() != 1 || x.End() != api.ErrForm {
			t.Errorf("%q: %q, %d", s, got, x.Fault())
		}
		if s == "" {
			continue
		}
		x = NewEye(p)
		if got := x.Text(len(s) - 1); got != "" || x.Fault() != api.ErrLong || x.Left() != 0 {
			t.Errorf("%q, one too long: %q, %d", s, got, x.Fault())
		}
		x = NewEye(p[:len(p)-2])
		if got := x.Text(len(s)); got != "" || x.Fault() != api.ErrShort || x.Left() != 0 {
			t.Errorf("%q, one too short: %q, %d", s, got, x.Fault())
		}
	}
	x := NewEye(new(Pen).Num(math.MaxInt).P)
	if x.Text(math.MaxInt) != "" || x.Fault() != api.ErrShort {
		t.Error("the longest text:", x.Fault())
	}
}

func TestEyeRaw(t *testing.T) { // P1.2
	x := NewEye([]byte("abcde"))
	for _, n := range []int{0, -1, math.MinInt} {
		if len(x.Raw(n)) != 0 || x.Fault() != api.OK || x.Left() != 5 {
			t.Errorf("Raw(%d): %d", n, x.Fault())
		}
	}
	if string(x.Raw(2)) != "ab" || x.Left() != 3 || string(x.Raw(3)) != "cde" || x.Left() != 0 || x.End() != api.OK {
		t.Error("abcde:", x.Left(), x.End())
	}
	if len(x.Raw(0)) != 0 || x.End() != api.OK {
		t.Error("none of none:", x.End())
	}
	if x.Raw(1) != nil || x.End() != api.ErrShort {
		t.Error("one of none:", x.End())
	}
	for _, n := range []int{6, math.MaxInt} {
		x = NewEye([]byte("abcde"))
		if x.Raw(n) != nil || x.Fault() != api.ErrShort || x.Left() != 0 {
			t.Errorf("Raw(%d): %d", n, x.Fault())
		}
	}
}

// blind tells whether all of an Eye is 0, or none, and its fault that one.
func blind(x *Eye, want api.Errno) bool {
	nothing := x.Num(9) == 0 && x.Text(9) == "" && len(x.Raw(1)) == 0 && len(x.Raw(0)) == 0 && x.Left() == 0
	return nothing && x.Fault() == want && x.End() == want
}

func TestFirstFaultStays(t *testing.T) { // P1.2
	for _, e := range []api.Errno{api.ErrArg, api.ErrSum, api.ErrParent, -1} {
		x := NewEye([]byte("\x81\x81a"))
		if x.Num(1) != 1 || x.Left() != 2 {
			t.Error("ahead of the fault")
		}
		x.Fail(e)
		if !blind(x, e) {
			t.Errorf("Fail(%d): %d", e, x.Fault())
		}
		x.Fail(api.ErrFull)
		x.Fail(api.OK)
		if !blind(x, e) {
			t.Errorf("Fail(%d), and others: %d", e, x.Fault())
		}
	}
	x := NewEye([]byte("\x82\x81"))
	x.Num(1)
	x.Fail(api.ErrArg)
	if !blind(x, api.ErrLong) {
		t.Error("Num, Fail:", x.Fault())
	}
}

func TestFailOfOKIsNoFault(t *testing.T) { // P1.2
	x := NewEye([]byte("\x81"))
	x.Fail(api.OK)
	if x.Fault() != api.OK || x.Left() != 1 || x.Num(1) != 1 || x.End() != api.OK {
		t.Error(x.Fault(), x.Left())
	}
}

func TestEyeOfNothing(t *testing.T) { // P1, P1.2
	for _, p := range [][]byte{nil, {}} {
		x := NewEye(p)
		if x.Fault() != api.OK || x.End() != api.OK || x.Left() != 0 {
			t.Error(x.Fault(), x.End(), x.Left())
		}
	}
}

func TestNilEye(t *testing.T) { // P1, P1.2
	var x *Eye
	if !blind(x, api.ErrNone) {
		t.Error(x.Fault(), x.End())
	}
	x.Fail(api.ErrArg)
	if !blind(x, api.ErrNone) {
		t.Error("Fail:", x.Fault())
	}
}

func TestEyeHasItsOwnBytes(t *testing.T) { // P2, and the rule on memory
	p := []byte("\x82abcdef")
	x := NewEye(p)
	for i := range p {
		p[i] = 'x'
	}
	if s := x.Text(2); s != "ab" {
		t.Errorf("written over what was handed in: %q", s)
	}
	got := x.Raw(2)
	got[0], got[1] = 'y', 'y'
	_ = append(got, 'z', 'z')
	if rest := x.Raw(2); string(rest) != "ef" {
		t.Errorf("written over what was answered: %q", rest)
	}
	if string(p) != "xxxxxxx" {
		t.Errorf("handed in, and changed: %q", p)
	}
}

func TestThereAndBack(t *testing.T) { // P1.1, P1.2, P2
	w := new(Pen)
	for _, n := range numbers() {
		w.Num(n).Text(strings.Repeat("t", n%40)).Raw([]byte{byte(n)})
	}
	for range 2 {
		x := NewEye(w.P)
		for _, n := range numbers() {
			if x.Num(math.MaxInt) != n || x.Text(40) != strings.Repeat("t", n%40) || string(x.Raw(1)) != string([]byte{byte(n)}) {
				t.Fatalf("at %d: %d", n, x.Fault())
			}
		}
		if x.End() != api.OK {
			t.Error(x.End())
		}
	}
}
