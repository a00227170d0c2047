package wire

import (
	"bytes"
	"math"
	"math/rand"
	"slices"
	"strconv"
	"strings"
	"testing"

	"interleaf/api"
)

// twelve is a text at the limit.
const twelve = "abcdefghijkl"

// num is a number's digits of base 128, by hand.
func num(n int) []byte {
	if n < 128 {
		return []byte{byte(128 + n)}
	}
	return append([]byte{byte(n % 128)}, num(n/128)...)
}

// laid is numbers and texts, by hand.
func laid(l ...any) []byte {
	var p []byte
	for _, x := range l {
		switch v := x.(type) {
		case int:
			p = append(p, num(v)...)
		case string:
			p = append(append(p, num(len(v))...), v...)
		}
	}
	return p
}

// begun is what stands ahead of n elements.
func begun(n int) []byte {
	return append([]byte("C1"), num(n)...)
}

// bytesOf is a chart's bytes, by hand.
func bytesOf(c api.Chart) []byte {
	p, ahead := begun(len(c)), 0
	for _, e := range c {
		p = append(p, laid(e.ID-ahead, int(e.Kind), e.Parent, e.Order, e.From, e.To, e.Name, e.Event, e.Guard, e.Action)...)
		ahead = e.ID
	}
	return p
}

// row is so many elements, from 1 on.
func row(n int) api.Chart {
	var c api.Chart
	for i := range n {
		c = append(c, api.Elem{ID: i + 1})
	}
	return c
}

// small is a chart of a few elements of all kinds.
func small() api.Chart {
	return api.Chart{
		{ID: 1, Kind: api.State, Name: "a"},
		{ID: 2, Kind: api.Region, Parent: 1, Order: 3, Name: "left"},
		{ID: 7, Kind: api.History, Parent: 2},
		{ID: 200, Kind: api.Final, Parent: 2, Order: 300},
		{ID: 70000, Kind: api.Trans, Order: 1, From: 1, To: 200, Event: "go", Guard: "x>1", Action: "do()"},
	}
}

// greatest is a chart at all limits.
func greatest() api.Chart {
	var c api.Chart
	for i := range 40 {
		c = append(c, api.Elem{ID: 1<<20 - 39 + i, Kind: 255, Parent: 1 << 20, Order: 1 << 20, From: 1 << 20, To: 1 << 20, Name: twelve, Event: twelve, Guard: twelve, Action: twelve})
	}
	return c
}

// right are charts that are Right.
func right() map[string]api.Chart {
	return map[string]api.Chart{
		"none":             nil,
		"empty":            {},
		"one":              {{ID: 1}},
		"the last number":  {{ID: 1 << 20}},
		"first and last":   {{ID: 1}, {ID: 1 << 20}},
		"40 elements":      row(40),
		"kind 255":         {{ID: 1, Kind: 255}},
		"kind 128":         {{ID: 1, Kind: 128}},
		"greatest parent":  {{ID: 1, Parent: 1 << 20}},
		"greatest order":   {{ID: 1, Order: 1 << 20}},
		"greatest from":    {{ID: 1, From: 1 << 20}},
		"greatest to":      {{ID: 1, To: 1 << 20}},
		"longest name":     {{ID: 1, Name: twelve}},
		"longest event":    {{ID: 1, Event: twelve}},
		"longest guard":    {{ID: 1, Guard: twelve}},
		"longest action":   {{ID: 1, Action: twelve}},
		"any bytes":        {{ID: 1, Name: "\x00\xff\x80", Event: "C1", Action: "ä"}},
		"breaks all rules": {{ID: 3, Kind: api.Region, Parent: 3, From: 9}, {ID: 4, Kind: 77, Parent: 88, Guard: "g"}},
		"small":            small(),
		"greatest":         greatest(),
	}
}

// wrongs are charts that aren't Right.
func wrongs() map[string]api.Chart {
	m := map[string]api.Chart{
		"number 0":          {{ID: 0}},
		"number -1":         {{ID: -1}},
		"number too great":  {{ID: 1<<20 + 1}},
		"least number":      {{ID: math.MinInt}},
		"greatest number":   {{ID: math.MaxInt}},
		"0, and 1":          {{ID: 0}, {ID: 1}},
		"last too great":    {{ID: 1}, {ID: 1<<20 + 1}},
		"twice":             {{ID: 1}, {ID: 1}},
		"falling":           {{ID: 2}, {ID: 1}},
		"falling behind":    {{ID: 1}, {ID: 3}, {ID: 2}},
		"41 elements":       row(41),
		"many elements":     row(5000),
		"name too long":     {{ID: 1, Name: twelve + "m"}},
		"event too long":    {{ID: 1, Event: twelve + "m"}},
		"guard too long":    {{ID: 1, Guard: twelve + "m"}},
		"action too long":   {{ID: 1, Action: twelve + "m"}},
		"bytes, not runes":  {{ID: 1, Name: "äöüäöüä"}},
		"a text of a mile":  {{ID: 1, Action: strings.Repeat("x", 100000)}},
		"wrong at the last": append(row(39), api.Elem{ID: 40, To: -1}),
	}
	for _, n := range []int{math.MinInt, -1, 1<<20 + 1, math.MaxInt} {
		tail := strconv.Itoa(n)
		m["parent "+tail] = api.Chart{{ID: 1, Parent: n}}
		m["order "+tail] = api.Chart{{ID: 1, Order: n}}
		m["from "+tail] = api.Chart{{ID: 1, From: n}}
		m["to "+tail] = api.Chart{{ID: 1, To: n}}
		m["parent, behind "+tail] = api.Chart{{ID: 1}, {ID: 2, Parent: n}}
	}
	return m
}

func TestExample(t *testing.T) { // P10.1: the chapter's example
	for _, c := range []api.Chart{nil, {}} {
		p, e := Encode(c)
		if e != api.OK || !bytes.Equal(p, []byte{0x43, 0x31, 0x80}) {
			t.Errorf("%x, %d", p, e)
		}
	}
	c, e := Decode([]byte{0x43, 0x31, 0x80})
	if e != api.OK || len(c) != 0 {
		t.Errorf("%v, %d", c, e)
	}
}

func TestRight(t *testing.T) { // P10.1
	for what, c := range right() {
		if !Right(c) {
			t.Errorf("%s: it is right", what)
		}
	}
	for what, c := range wrongs() {
		if Right(c) {
			t.Errorf("%s: it isn't right", what)
		}
	}
}

func TestEncodeLaysOut(t *testing.T) { // P10.1
	p, e := Encode(api.Chart{
		{ID: 1, Kind: 1, Name: "a"},
		{ID: 300, Kind: 5, Parent: 2, Order: 3, From: 128, To: 5, Name: "n", Event: "ev", Guard: "gua", Action: "acti"},
		{ID: 301, Kind: 255},
	})
	want := "C1\x83" +
		"\x81\x81\x80\x80\x80\x80\x81a\x80\x80\x80" +
		"\x2b\x82\x85\x82\x83\x00\x81\x85\x81n\x82ev\x83gua\x84acti" +
		"\x81\x7f\x81\x80\x80\x80\x80\x80\x80\x80\x80"
	if e != api.OK || string(p) != want {
		t.Errorf("%x, %d", p, e)
	}
	for what, c := range right() {
		if p, e := Encode(c); e != api.OK || !bytes.Equal(p, bytesOf(c)) {
			t.Errorf("%s: %x, %d", what, p, e)
		}
	}
}

func TestEncodeRefuses(t *testing.T) { // P10.1
	for what, c := range wrongs() {
		if p, e := Encode(c); e != api.ErrArg || len(p) != 0 {
			t.Errorf("%s: %x, %d", what, p, e)
		}
	}
}

func TestDecodeIsTheWayBack(t *testing.T) { // P4, P10.1
	for what, c := range right() {
		d, e := Decode(bytesOf(c))
		if e != api.OK || !slices.Equal(c, d) {
			t.Errorf("%s: %v, %d", what, d, e)
		}
	}
}

// refused holds that Encode makes some bytes of no chart.
func refused(t *testing.T, what string, p []byte) {
	t.Helper()
	was := bytes.Clone(p)
	if c, e := Decode(p); e != api.ErrForm || len(c) != 0 {
		t.Errorf("%s: %x: %v, %d", what, p, c, e)
	}
	if !bytes.Equal(p, was) {
		t.Errorf("%s: what was handed in is changed", what)
	}
}

func TestDecodeRefuses(t *testing.T) { // P10.1
	for what, s := range map[string]string{
		"nothing":               "",
		"half a mark":           "C",
		"a mark alone":          "C1",
		"another mark":          "C2\x80",
		"another letter":        "c1\x80",
		"one that is turned":    "1C\x80",
		"a mark behind":         "\x80C1",
		"something behind":      "C1\x80\x80",
		"nought of two digits":  "C1\x00\x80",
		"it ends in a number":   "C1\x00",
		"an element is missing": "C1\x81",
		"41 elements":           "C1\xa9",
		"a great many elements": "C1\x7f\x7f\x7f\x7f\x7f\x7f\x7f\x7f\xff",
		"ten digits":            "C1\x00\x00\x00\x00\x00\x00\x00\x00\x00\x81",
		"an element too many":   "C1\x80\x81\x80\x80\x80\x80\x80\x80\x80\x80\x80",
	} {
		refused(t, what, []byte(s))
	}
	refused(t, "nil", nil)
	for what, c := range wrongs() {
		if len(c) > 40 {
			refused(t, what, bytesOf(c))
		}
	}
}

// one is an element, by hand: each field nought or empty, but one.
func one(at int, x any) []byte {
	l := []any{1, 0, 0, 0, 0, 0, "", "", "", ""}
	l[at] = x
	return laid(l...)
}

func TestDecodeRefusesFields(t *testing.T) { // P10.1
	long := twelve + "m"
	for at := range 10 {
		var good, bad []any
		switch {
		case at == 0:
			good, bad = []any{1, 2, 1 << 20}, []any{0, 1<<20 + 1, 1 << 30, math.MaxInt}
		case at == 1:
			good, bad = []any{0, 5, 6, 127, 128, 255}, []any{256, 257, 511, 1 << 20, math.MaxInt}
		case at < 6:
			good, bad = []any{0, 1, 127, 128, 1 << 20}, []any{1<<20 + 1, 1 << 40, math.MaxInt}
		default:
			good, bad = []any{"", "a", twelve, "\x80\x00"}, []any{long, strings.Repeat("x", 128), strings.Repeat("x", 300)}
		}
		for _, x := range good {
			if c, e := Decode(append(begun(1), one(at, x)...)); e != api.OK || len(c) != 1 {
				t.Errorf("field %d, %v: %v, %d", at, x, c, e)
			}
		}
		for _, x := range bad {
			refused(t, "a field", append(begun(1), one(at, x)...))
			two := append(begun(2), one(0, 1)...) // and behind another one
			if at > 0 || x == 0 {
				refused(t, "a field of the second", append(two, one(at, x)...))
			}
		}
	}
}

func TestDecodeRefusesSteps(t *testing.T) { // P10.1: how much a number is above the one ahead
	steps := func(l ...int) []byte {
		p := begun(len(l))
		for _, n := range l {
			p = append(p, one(0, n)...)
		}
		return p
	}
	for _, l := range [][]int{{0}, {0, 1}, {1, 0}, {5, 1, 0}, {1 << 20, 1}, {1, 1 << 20}, {1 << 19, 1<<19 + 1}, {1 << 20, 1 << 20, 1 << 20}, {1, math.MaxInt}, {1 << 20, math.MaxInt}} {
		refused(t, "steps", steps(l...))
	}
	for _, l := range [][]int{{1}, {1, 1}, {1 << 20}, {1, 1<<20 - 1}, {1 << 19, 1 << 19}, {1<<20 - 2, 1, 1}} {
		c, e := Decode(steps(l...))
		if e != api.OK || len(c) != len(l) {
			t.Errorf("%v: %d", l, e)
			continue
		}
		id := 0
		for i, n := range l {
			if id += n; c[i].ID != id {
				t.Errorf("%v: %v", l, c)
			}
		}
	}
}

func TestDecodeRefusesPieces(t *testing.T) { // P10.1
	for what, c := range right() {
		p := bytesOf(c)
		for n := range p {
			refused(t, what, p[:n:n])
		}
		for _, b := range []byte{0, 1, 127, 128, 129, 255} {
			refused(t, what, append(bytes.Clone(p), b))
		}
		refused(t, what, append(bytes.Clone(p), p...))
		refused(t, what, append([]byte{0}, p...))
	}
}

// holds holds Decode of some bytes against Encode: they are a chart's, or refused.
func holds(t *testing.T, p []byte) (taken bool) {
	t.Helper()
	c, e := Decode(p)
	switch {
	case e == api.ErrForm && len(c) == 0:
		return false
	case e != api.OK || !Right(c) || !bytes.Equal(bytesOf(c), p):
		t.Fatalf("%x: %v, %d", p, c, e)
	}
	if q, e := Encode(c); e != api.OK || !bytes.Equal(p, q) {
		t.Fatalf("%x: %x, %d", p, q, e)
	}
	return true
}

func TestEachByteCounts(t *testing.T) { // P4, P10.1: what is told has just p's bytes
	p := bytesOf(small())
	taken := 0
	for i := range p {
		for b := range 256 {
			q := bytes.Clone(p)
			q[i] = byte(b)
			if holds(t, q) {
				taken++
			}
		}
		holds(t, slices.Delete(bytes.Clone(p), i, i+1))
		for _, b := range []byte{0, 1, 127, 128, 129, 255} {
			holds(t, slices.Insert(bytes.Clone(p), i, b))
		}
	}
	if taken < len(p) {
		t.Errorf("%d were taken", taken)
	}
}

func TestAllShortBytes(t *testing.T) { // P1, P10.1
	some := []byte{0, 1, 127, 128, 129, 130, 168, 169, 255}
	var all func(p []byte, n int)
	all = func(p []byte, n int) {
		holds(t, p)
		for _, b := range some {
			if n > 0 {
				all(append(p[:len(p):len(p)], b), n-1)
			}
		}
	}
	all([]byte("C1"), 5)
	all(append(begun(1), one(0, 1)[:6]...), 4)
}

// random is a chart that is Right.
func random(r *rand.Rand) api.Chart {
	number := func() int { return r.Intn(1<<r.Intn(21) + 1) }
	text := func() string {
		p := make([]byte, r.Intn(13))
		r.Read(p)
		return string(p)
	}
	var c api.Chart
	id := 0
	for range r.Intn(41) {
		id += 1 + r.Intn(1<<r.Intn(15))
		c = append(c, api.Elem{ID: id, Kind: byte(r.Intn(256)), Parent: number(), Order: number(), From: number(), To: number(), Name: text(), Event: text(), Guard: text(), Action: text()})
	}
	return c
}

func TestManyCharts(t *testing.T) { // P4, P10.1
	r := rand.New(rand.NewSource(10))
	for range 2000 {
		c := random(r)
		was := slices.Clone(c)
		p, e := Encode(c)
		if e != api.OK || !bytes.Equal(p, bytesOf(c)) || !slices.Equal(c, was) {
			t.Fatalf("%v: %x, %d", c, p, e)
		}
		if d, e := Decode(p); e != api.OK || !slices.Equal(c, d) {
			t.Fatalf("%v: %v, %d", c, d, e)
		}
		q := bytes.Clone(p)
		for range 1 + r.Intn(3) {
			q[r.Intn(len(q))] += byte(1 + r.Intn(255))
		}
		holds(t, q)
	}
}

func TestNothingIsShared(t *testing.T) { // P2, and the rule on memory
	c := small()
	p, _ := Encode(c)
	want := bytes.Clone(p)
	c[0].Name, c[1].Order = "other", 99
	if !bytes.Equal(p, want) {
		t.Error("the bytes are others")
	}
	d, _ := Decode(p)
	clear(p)
	if !slices.Equal(d, small()) {
		t.Error("the chart is another one")
	}
	_ = append(d, api.Elem{ID: 1})
	d[0] = api.Elem{}
	if d, e := Decode(want); e != api.OK || !slices.Equal(d, small()) {
		t.Error(d, e)
	}
}
