package chart

import (
	"maps"
	"math"
	"math/rand"
	"slices"
	"testing"

	"interleaf/api"
)

// full is an element none of whose fields is like another one.
var full = api.Elem{ID: 7, Kind: api.Trans, Parent: 11, Order: 12, Name: "name", From: 13, To: 14, Event: "event", Guard: "guard", Action: "action"}

// numbers are those at the ends, and some between them.
var numbers = []int{math.MinInt, math.MinInt + 1, -257, -256, -1, 0, 1, 2, 254, 255, 256, 257, 511, 512, api.MaxID, api.MaxID + 1, math.MaxInt - 1, math.MaxInt}

// none are numbers of which there is no field.
var none = []int{math.MinInt, -9, -1, 9, 10, 255, 256, math.MaxInt}

// set sets each field, by hand, by its number.
var set = [9]func(e *api.Elem, v api.Val){
	func(e *api.Elem, v api.Val) { e.Kind = byte(v.N & 255) },
	func(e *api.Elem, v api.Val) { e.Parent = v.N },
	func(e *api.Elem, v api.Val) { e.Order = v.N },
	func(e *api.Elem, v api.Val) { e.Name = v.S },
	func(e *api.Elem, v api.Val) { e.From = v.N },
	func(e *api.Elem, v api.Val) { e.To = v.N },
	func(e *api.Elem, v api.Val) { e.Event = v.S },
	func(e *api.Elem, v api.Val) { e.Guard = v.S },
	func(e *api.Elem, v api.Val) { e.Action = v.S },
}

// text tells whether a field is one of those of S.
func text(field int) bool {
	return field == api.FName || field >= api.FEvent
}

// of is a chart of some numbers, each with a name of its own.
func of(ids ...int) api.Chart {
	var c api.Chart
	for i, id := range ids {
		c = append(c, api.Elem{ID: id, Name: string(rune('a' + i))})
	}
	return c
}

func wantChart(t *testing.T, what string, got, want api.Chart) {
	t.Helper()
	if !slices.Equal(got, want) {
		t.Errorf("%s: %v, not %v", what, got, want)
	}
}

func wantList(t *testing.T, what string, got []int, want ...int) {
	t.Helper()
	if !slices.Equal(got, want) {
		t.Errorf("%s: %v, not %v", what, got, want)
	}
}

func TestExample(t *testing.T) { // P9.2: the chapter's example
	c := Put(of(1, 5), api.Elem{ID: 3})
	wantList(t, "numbers", IDs(c), 1, 3, 5)
	wantChart(t, "Put", c, api.Chart{{ID: 1, Name: "a"}, {ID: 3}, {ID: 5, Name: "b"}})
}

func TestGet(t *testing.T) { // P9.1
	want := [...]api.Val{{N: 5}, {N: 11}, {N: 12}, {S: "name"}, {N: 13}, {N: 14}, {S: "event"}, {S: "guard"}, {S: "action"}}
	if len(want) != api.Fields {
		t.Fatal("other fields")
	}
	for field, v := range want {
		if got := Get(full, field); got != v {
			t.Errorf("field %d: %v, not %v", field, got, v)
		}
		if got := Get(api.Elem{ID: 3}, field); got != (api.Val{}) {
			t.Errorf("field %d of an empty one: %v", field, got)
		}
	}
	for _, field := range none {
		if got := Get(full, field); got != (api.Val{}) {
			t.Errorf("field %d: %v", field, got)
		}
	}
	if got := Get(api.Elem{Kind: 255}, api.FKind); got != (api.Val{N: 255}) {
		t.Error(got)
	}
	for _, n := range numbers {
		if got := Get(api.Elem{Parent: n}, api.FParent); got != (api.Val{N: n}) {
			t.Error(got)
		}
	}
}

func TestWith(t *testing.T) { // P9.1
	for field := range api.Fields {
		for _, n := range numbers {
			for _, s := range []string{"", "x", "name", "more than twelve bytes\x00\xff"} {
				v, want, e := api.Val{N: n, S: s}, full, full
				set[field](&want, v)
				if got := With(e, field, v); got != want {
					t.Errorf("field %d, %v: %v, not %v", field, v, got, want)
				}
				if e != full {
					t.Fatal("what was handed in is changed")
				}
			}
		}
	}
	for _, field := range none {
		if got := With(full, field, api.Val{N: 1, S: "x"}); got != full {
			t.Errorf("field %d: %v", field, got)
		}
	}
}

func TestWithTakesLowestBitsOfAKind(t *testing.T) { // P9.1
	for n, want := range map[int]byte{0: 0, 5: 5, 255: 255, 256: 0, 257: 1, 511: 255, 1<<40 + 77: 77, -1: 255, -255: 1, -256: 0, math.MinInt: 0, math.MaxInt: 255} {
		if got := With(full, api.FKind, api.Val{N: n}).Kind; got != want {
			t.Errorf("kind %d: %d, not %d", n, got, want)
		}
	}
}

func TestFits(t *testing.T) { // P9.1
	for field := range api.Fields {
		for _, n := range numbers {
			for _, s := range []string{"", "x", "\x00", "more than twelve bytes"} {
				want := s == ""
				switch {
				case text(field):
					want = n == 0
				case field == api.FKind:
					want = want && n >= 0 && n <= 255
				}
				if got := Fits(field, api.Val{N: n, S: s}); got != want {
					t.Errorf("field %d, %d, %q: %t", field, n, s, got)
				}
			}
		}
	}
	for _, field := range none {
		for _, v := range []api.Val{{}, {N: 1}, {S: "x"}, {N: 1, S: "x"}} {
			if Fits(field, v) {
				t.Errorf("field %d has %v", field, v)
			}
		}
	}
}

func TestGetOfWith(t *testing.T) { // P9.1: what fits is got as it was
	for field := range api.Fields {
		v := api.Val{N: 99}
		if text(field) {
			v = api.Val{S: "99"}
		}
		for other := range api.Fields {
			want := Get(full, other)
			if other == field {
				want = v
			}
			if got := Get(With(full, field, v), other); got != want {
				t.Errorf("field %d, with %d: %v, not %v", other, field, got, want)
			}
		}
	}
}

func TestFind(t *testing.T) { // P9.2
	ids := []int{math.MinInt, -5, -1, 0, 1, 2, 9, api.MaxID, math.MaxInt}
	c := of(ids...)
	for i, id := range ids {
		if e, ok := Find(c, id); !ok || e != c[i] {
			t.Errorf("%d: %v, %t", id, e, ok)
		}
	}
	for _, id := range []int{math.MinInt + 1, -6, -4, -2, 3, 8, 10, api.MaxID - 1, api.MaxID + 1, math.MaxInt - 1} {
		if e, ok := Find(c, id); ok || e != (api.Elem{}) {
			t.Errorf("%d: %v, %t", id, e, ok)
		}
	}
	for _, empty := range []api.Chart{nil, {}} {
		if e, ok := Find(empty, 0); ok || e != (api.Elem{}) {
			t.Errorf("%v, %t", e, ok)
		}
	}
}

func TestPut(t *testing.T) { // P9.2
	e := api.Elem{ID: 5, Kind: api.State, Name: "new"}
	for _, c := range []struct{ was, want api.Chart }{
		{nil, api.Chart{e}},
		{api.Chart{}, api.Chart{e}},
		{api.Chart{{ID: 5, Name: "old", Parent: 3}}, api.Chart{e}},
		{of(1), api.Chart{{ID: 1, Name: "a"}, e}},
		{of(9), api.Chart{e, {ID: 9, Name: "a"}}},
		{of(4, 5, 6), api.Chart{{ID: 4, Name: "a"}, e, {ID: 6, Name: "c"}}},
		{of(5, 6), api.Chart{e, {ID: 6, Name: "b"}}},
		{of(4, 5), api.Chart{{ID: 4, Name: "a"}, e}},
		{of(math.MinInt, math.MaxInt), api.Chart{{ID: math.MinInt, Name: "a"}, e, {ID: math.MaxInt, Name: "b"}}},
	} {
		wantChart(t, "Put", Put(c.was, e), c.want)
	}
	for _, id := range []int{math.MinInt, -1, 0, math.MaxInt} { // any number is one
		wantList(t, "numbers", IDs(Put(nil, api.Elem{ID: id})), id)
		if c := Put(of(-7, 7), api.Elem{ID: id}); len(c) != 3 || !Rising(c) {
			t.Error(c)
		}
	}
}

func TestDrop(t *testing.T) { // P9.2
	a, b, c := api.Elem{ID: 1, Name: "a"}, api.Elem{ID: 3, Name: "b"}, api.Elem{ID: 5, Name: "c"}
	all := api.Chart{a, b, c}
	wantChart(t, "the first", Drop(all, 1), api.Chart{b, c})
	wantChart(t, "one between", Drop(all, 3), api.Chart{a, c})
	wantChart(t, "the last", Drop(all, 5), api.Chart{a, b})
	wantChart(t, "the only one", Drop(api.Chart{a}, 1), nil)
	for _, id := range []int{math.MinInt, 0, 2, 4, 6, math.MaxInt} {
		wantChart(t, "one that isn't there", Drop(all, id), all)
		wantChart(t, "of none", Drop(nil, id), nil)
		wantChart(t, "of none", Drop(api.Chart{}, id), nil)
	}
}

// model is a chart as a map: its elements by their numbers.
type model map[int]api.Elem

func (m model) chart() api.Chart {
	var c api.Chart
	for _, id := range slices.Sorted(maps.Keys(m)) {
		c = append(c, m[id])
	}
	return c
}

func TestManySteps(t *testing.T) { // P9.2: beside a plain model
	r := rand.New(rand.NewSource(9))
	for range 60 {
		var c api.Chart
		m, most := model{}, 1+r.Intn(50)
		for range 200 {
			id, was := r.Intn(most)-most/3, slices.Clone(c)
			if got, ok := Find(c, id); got != m[id] || ok != (got != api.Elem{}) {
				t.Fatalf("Find(%d): %v, %t", id, got, ok)
			}
			next := c
			if r.Intn(3) > 0 {
				e := api.Elem{ID: id, Kind: 1, Parent: r.Intn(4), Order: r.Intn(99)}
				next, m[id] = Put(c, e), e
			} else {
				next = Drop(c, id)
				delete(m, id)
			}
			wantChart(t, "what was handed in", c, was)
			wantChart(t, "next", next, m.chart())
			if !Rising(next) {
				t.Fatal(next)
			}
			wantList(t, "IDs", IDs(next), slices.Sorted(maps.Keys(m))...)
			c = next
		}
	}
}

func TestChartsAreNotShared(t *testing.T) { // P9.2, and the rule on memory
	was := of(1, 3, 5)
	c := append(make(api.Chart, 0, 40), was...) // room behind: an append would write there
	beside := c[:4]
	for _, d := range []api.Chart{
		Put(c, api.Elem{ID: 0}), Put(c, api.Elem{ID: 1}), Put(c, api.Elem{ID: 2}), Put(c, api.Elem{ID: 5}), Put(c, api.Elem{ID: 6}),
		Drop(c, 1), Drop(c, 3), Drop(c, 5), Drop(c, 7),
		Put(c[:0], api.Elem{ID: 9}), Drop(c[:0], 9),
	} {
		for i := range d {
			d[i] = api.Elem{ID: 77}
		}
		d = append(d, full)
		_ = append(d, full, full)
		wantChart(t, "what was handed in", c, was)
		if beside[3] != (api.Elem{}) {
			t.Fatal("it is written behind what was handed in")
		}
	}
}

func TestRising(t *testing.T) { // P9.2
	for _, ids := range [][]int{{}, {0}, {-1}, {5}, {1, 2}, {1, 5, 9}, {-3, 0, 4}, {math.MinInt, math.MaxInt}, {math.MinInt, -1, 0, 1, math.MaxInt}} {
		if !Rising(of(ids...)) {
			t.Errorf("%v: it rises", ids)
		}
	}
	for _, ids := range [][]int{{0, 0}, {1, 1}, {2, 1}, {1, 2, 2}, {1, 1, 2}, {1, 3, 2}, {3, 1, 2}, {1, 2, 3, 0}, {math.MaxInt, math.MinInt}, {math.MinInt, math.MinInt}} {
		if Rising(of(ids...)) {
			t.Errorf("%v: it doesn't rise", ids)
		}
	}
	if !Rising(nil) {
		t.Error("none rise")
	}
}

func TestEqual(t *testing.T) { // P9.2: of any charts
	charts := []api.Chart{nil, of(1), of(2), of(1, 2), of(1, 2, 3), of(2, 1), of(1, 1), {full}, {full, full}, {{}}}
	for i, a := range charts {
		for k, b := range charts {
			if Equal(a, slices.Clone(b)) != (i == k) {
				t.Errorf("%v, %v", a, b)
			}
		}
	}
	if !Equal(nil, api.Chart{}) || !Equal(api.Chart{}, nil) {
		t.Error("nil and empty are the same")
	}
}

func TestEqualLooksAtEachField(t *testing.T) { // P9.2
	a := api.Chart{{ID: 1}, full}
	if !Equal(a, api.Chart{{ID: 1}, full}) {
		t.Error("they are one")
	}
	for field := range api.Fields {
		e := full
		set[field](&e, api.Val{N: 99, S: "other"})
		if b := (api.Chart{{ID: 1}, e}); Equal(a, b) || Equal(b, a) {
			t.Errorf("field %d", field)
		}
	}
	e := full
	e.ID++
	if Equal(a, api.Chart{{ID: 1}, e}) {
		t.Error("another number")
	}
}

func TestIDs(t *testing.T) { // P9.2: of any charts
	wantList(t, "of none", IDs())
	wantList(t, "of none", IDs(nil))
	wantList(t, "of none", IDs(nil, api.Chart{}, nil))
	wantList(t, "of one", IDs(of(1, 5, 9)), 1, 5, 9)
	wantList(t, "of three", IDs(of(5, 7), nil, of(1, 5, 9), of(2, 7)), 1, 2, 5, 7, 9)
	wantList(t, "of the same", IDs(of(1, 2), of(1, 2), of(1, 2)), 1, 2)
	wantList(t, "of one that doesn't rise", IDs(of(9, 5, 5, 1, 9)), 1, 5, 9)
	wantList(t, "of some that don't", IDs(of(3, 3), of(2, 3, 0), of(-1, -2)), -2, -1, 0, 2, 3)
	wantList(t, "at the ends", IDs(of(math.MaxInt, 0), of(math.MinInt)), math.MinInt, 0, math.MaxInt)
	l := []api.Chart{of(9, 5, 5), of(2)}
	wantList(t, "of a list", IDs(l...), 2, 5, 9)
	wantChart(t, "what was handed in", l[0], of(9, 5, 5))
	wantChart(t, "what was handed in", l[1], of(2))
}

func TestChildren(t *testing.T) { // P9.2
	c := api.Chart{
		{ID: 1, Kind: api.State},
		{ID: 2, Kind: api.State, Parent: 9, Order: 5},
		{ID: 3, Kind: api.Trans, From: 9, To: 9},
		{ID: 4, Kind: api.Final, Parent: 9, Order: 1},
		{ID: 5, Kind: api.State, Parent: 5},
		{ID: 8, Kind: api.Region, Parent: math.MinInt},
		{ID: 9, Kind: api.State, Parent: 1},
		{ID: 12, Kind: api.History, Parent: 9, Order: 3},
	}
	wantList(t, "in order", Children(c, 9), 2, 4, 12)
	wantList(t, "in nothing", Children(c, 0), 1, 3)
	wantList(t, "one", Children(c, 1), 9)
	wantList(t, "in itself", Children(c, 5), 5)
	wantList(t, "of one that isn't there", Children(c, math.MinInt), 8)
	for _, id := range []int{-1, 2, 3, 4, 10, math.MaxInt} {
		wantList(t, "none", Children(c, id))
	}
	wantList(t, "of no chart", Children(nil, 0))
	wantList(t, "of no chart", Children(api.Chart{}, 0))
}

func TestEndsAtChartsThatDontRise(t *testing.T) { // P1
	for _, c := range []api.Chart{of(2, 1), of(1, 1, 1), of(9, 8, 7, 6, 5), of(5, 1, 9, 1, 5), of(math.MaxInt, math.MinInt, 0)} {
		was := slices.Clone(c)
		for _, id := range append([]int{5, 6, 7, 8, 9}, numbers...) {
			Find(c, id)
			Put(c, api.Elem{ID: id})
			Drop(c, id)
			Children(c, id)
		}
		wantChart(t, "what was handed in", c, was)
	}
}
