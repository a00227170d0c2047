package merge

import (
	"math"
	"math/rand"
	"slices"
	"strconv"
	"testing"

	"interleaf/api"
	"interleaf/edit"
	"interleaf/rules"
)

// kinds are the classes of conflicts of the fields, by hand.
var kinds = [9]byte{api.Update, api.Move, api.Order, api.Update, api.Retarget, api.Retarget, api.Update, api.Update, api.Update}

// fields is all fields of an element, by hand.
func fields(e api.Elem) [9]api.Val {
	return [9]api.Val{{N: int(e.Kind)}, {N: e.Parent}, {N: e.Order}, {S: e.Name}, {N: e.From}, {N: e.To}, {S: e.Event}, {S: e.Guard}, {S: e.Action}}
}

// elem is an element by its fields, by hand.
func elem(id int, v [9]api.Val) api.Elem {
	return api.Elem{ID: id, Kind: byte(v[0].N), Parent: v[1].N, Order: v[2].N, Name: v[3].S, From: v[4].N, To: v[5].N, Event: v[6].S, Guard: v[7].S, Action: v[8].S}
}

// with is an element with a field that is a number, or the text of it.
func with(e api.Elem, field, n int) api.Elem {
	v := fields(e)
	if v[field].N = n; fields(elem(0, v))[field].N != n {
		v[field] = api.Val{S: strconv.Itoa(n)}
	}
	return elem(e.ID, v)
}

// room is a chart behind which there is room, into which an append would write.
func room(l ...api.Elem) api.Chart {
	return append(make(api.Chart, 0, len(l)+8), l...)
}

func state(id, in int, name string) api.Elem {
	return api.Elem{ID: id, Kind: api.State, Parent: in, Name: name}
}

func region(id, in int, name string) api.Elem {
	return api.Elem{ID: id, Kind: api.Region, Parent: in, Name: name}
}

func trans(id, from, to int) api.Elem {
	return api.Elem{ID: id, Kind: api.Trans, From: from, To: to}
}

// yard is a chart that keeps the rules, and has each kind.
func yard() api.Chart {
	return room(
		state(1, 0, "a"),
		state(2, 0, "b"),
		api.Elem{ID: 3, Kind: api.Trans, Order: 4, From: 1, To: 2, Event: "e", Guard: "g", Action: "do"},
		region(5, 2, "r"),
		region(6, 2, "s"),
		api.Elem{ID: 7, Kind: api.History, Parent: 5},
		api.Elem{ID: 8, Kind: api.Final, Parent: 6, Order: 1},
	)
}

// changed is a chart with some elements, each in the place of the one of its number.
func changed(c api.Chart, l ...api.Elem) api.Chart {
	m := map[int]api.Elem{}
	for _, e := range slices.Concat(c, l) {
		m[e.ID] = e
	}
	return ofMap(m)
}

// without is a chart without some elements.
func without(c api.Chart, ids ...int) api.Chart {
	return slices.DeleteFunc(slices.Clone(c), func(e api.Elem) bool { return slices.Contains(ids, e.ID) })
}

func ofMap(m map[int]api.Elem) api.Chart {
	var ids []int
	for id := range m {
		ids = append(ids, id)
	}
	slices.Sort(ids)
	c := room()
	for _, id := range ids {
		c = append(c, m[id])
	}
	return c
}

// wantMerged holds All to a chart, whichever side is first.
func wantMerged(t *testing.T, what string, o, a, b, want api.Chart) {
	t.Helper()
	for _, x := range [][2]api.Chart{{a, b}, {b, a}} {
		if c, l, e := All(o, x[0], x[1]); e != api.OK || len(l) > 0 || !slices.Equal(c, want) {
			t.Errorf("%s: %v, %v, %d, not %v", what, c, l, e, want)
		}
	}
}

// wantParted holds All to conflicts, whichever side is first.
func wantParted(t *testing.T, what string, o, a, b api.Chart, want ...api.Conflict) {
	t.Helper()
	for _, x := range [][2]api.Chart{{a, b}, {b, a}} {
		if c, l, e := All(o, x[0], x[1]); e != api.OK || len(c) > 0 || !slices.Equal(l, want) {
			t.Errorf("%s: %v, %v, %d, not %v", what, c, l, e, want)
		}
	}
}

func TestExample(t *testing.T) { // P14.2, P14.3: the chapter's example, of each field that may be another one
	o := yard()
	for _, x := range []struct {
		what string
		e    api.Elem
	}{
		{"a kind", api.Elem{ID: 7, Kind: api.Final, Parent: 5}},
		{"a parent", api.Elem{ID: 7, Kind: api.History, Parent: 6}},
		{"an order", api.Elem{ID: 8, Kind: api.Final, Parent: 6, Order: 2}},
		{"a name", state(1, 0, "c")},
		{"a from", with(o[2], api.FFrom, 2)},
		{"a to", with(o[2], api.FTo, 7)},
		{"an event", with(o[2], api.FEvent, 1)},
		{"a guard", with(o[2], api.FGuard, 1)},
		{"an action", with(o[2], api.FAction, 1)},
		{"an event that is none", api.Elem{ID: 3, Kind: api.Trans, Order: 4, From: 1, To: 2, Guard: "g", Action: "do"}},
		{"an order that is 0", api.Elem{ID: 8, Kind: api.Final, Parent: 6}},
	} {
		a := changed(o, x.e)
		if slices.Equal(a, o) {
			t.Fatal(x.what)
		}
		wantMerged(t, x.what, o, a, o, a)
		wantMerged(t, x.what+", on both sides", o, a, a, a)
		wantMerged(t, x.what+", and the way back", a, o, a, o)
	}
}

// picks holds Pick to an answer, whichever side is first.
func picks[T comparable](t *testing.T, o, a, b, want T, agreed bool) {
	t.Helper()
	for _, x := range []Three[T]{{O: o, A: a, B: b}, {O: o, A: b, B: a}} {
		if got, ok := x.Pick(); got != want || ok != agreed {
			t.Errorf("%v: %v, %v, not %v, %v", x, got, ok, want, agreed)
		}
	}
}

// picksAll holds Pick to what it is of each three of three values that aren't the same.
func picksAll[T comparable](t *testing.T, x, y, z T) {
	t.Helper()
	picks(t, x, x, x, x, true)
	for _, v := range [][3]T{{x, y, z}, {x, z, y}, {y, x, z}, {y, z, x}, {z, x, y}, {z, y, x}} {
		picks(t, v[0], v[0], v[1], v[1], true)
		picks(t, v[0], v[1], v[1], v[1], true)
		picks(t, v[0], v[1], v[2], v[0], false)
	}
}

func TestPick(t *testing.T) { // P14.1
	picksAll(t, 0, 1, 2)
	picksAll(t, math.MinInt, 0, math.MaxInt)
	picksAll(t, "", "a", "b")
	picksAll(t, api.Val{}, api.Val{N: 1}, api.Val{S: "1"})
	picksAll(t, api.Elem{ID: 1}, api.Elem{ID: 1, Action: "a"}, api.Elem{})
	picksAll(t, [2]byte{}, [2]byte{1}, [2]byte{0, 1})
	picksAll(t, new(1), new(1), nil)
	picksAll[any](t, nil, 1, "1")
	picks(t, false, true, false, true, true)
	picks(t, true, true, false, false, true)
	picks(t, false, true, true, true, true)
	var none Three[string]
	if s, ok := none.Pick(); s != "" || !ok {
		t.Error(s, ok)
	}
}

func TestPickOfWhatIsNotItself(t *testing.T) { // P1, P14.1: what can't be held against another one isn't the same, and doesn't panic
	nan := math.NaN()
	if f, ok := (Three[float64]{O: nan, A: nan, B: nan}).Pick(); ok || f == f {
		t.Error(f, ok)
	}
	if f, ok := (Three[float64]{O: 1, A: nan, B: 1}).Pick(); !ok || f == f {
		t.Error(f, ok)
	}
	picks[any](t, 1, 1, 2, 2, true)
	list, other := any([]int{1}), any(func() {})
	for _, x := range []Three[any]{{list, list, list}, {list, list, other}, {other, list, list}, {list, other, list}} {
		if v, ok := x.Pick(); v == nil || ok {
			t.Error(v, ok)
		}
	}
	// Of two kinds there is nothing to hold against one another.
	for _, x := range []Three[any]{{O: 1, A: 1, B: list}, {O: 1, A: list, B: 1}} {
		if v, ok := x.Pick(); !ok || len(v.([]int)) != 1 {
			t.Error(v, ok)
		}
	}
	type pair [2]any
	if v, ok := (Three[pair]{O: pair{1, list}, A: pair{1, list}, B: pair{2, list}}).Pick(); ok || v[0] != 1 {
		t.Error(v, ok)
	}
	if v, ok := (Three[pair]{O: pair{1, 2}, A: pair{1, 2}, B: pair{2, list}}).Pick(); !ok || v[0] != 2 {
		t.Error(v, ok)
	}
}

func TestForm(t *testing.T) { // P14.2: ErrForm, ahead of whatever else is
	good := room(state(1, 0, "a"), state(2, 0, "b"))
	parted := room(state(1, 0, "x"), state(2, 0, "y"))
	broken := room(trans(4, 1, 9))
	for _, bad := range []api.Chart{
		{{ID: 2}, {ID: 1}},
		{{ID: 1}, {ID: 1}},
		{state(1, 0, "a"), state(1, 0, "a")},
		{{ID: 1}, {ID: 2}, {ID: 2}},
		{{ID: 1}, {ID: 3}, {ID: 2}, {ID: 4}},
		{{ID: 0}, {ID: -1}},
		{{ID: math.MaxInt}, {ID: math.MinInt}},
	} {
		for _, x := range [][3]api.Chart{
			{bad, nil, nil}, {nil, bad, nil}, {nil, nil, bad},
			{bad, good, good}, {good, bad, good}, {good, good, bad}, {good, bad, bad}, {bad, bad, bad},
			{bad, good, parted}, {nil, parted, bad}, {broken, bad, broken},
		} {
			if c, l, e := All(x[0], x[1], x[2]); e != api.ErrForm || len(c) > 0 || len(l) > 0 {
				t.Error(x, c, l, e)
			}
		}
	}
}

func TestWholeElements(t *testing.T) { // P14.2: an element is there, or not, as Pick says
	o := yard()
	none, empty := api.Chart(nil), api.Chart{}
	wantMerged(t, "nothing", none, none, none, none)
	wantMerged(t, "nothing", empty, none, empty, none)
	wantMerged(t, "all of it added", none, o, empty, o)
	wantMerged(t, "all of it added, on both sides", none, o, o, o)
	wantMerged(t, "all of it dropped", o, none, o, none)
	wantMerged(t, "all of it dropped, on both sides", o, none, empty, none)
	wantMerged(t, "as it was", o, o, o, o)
	added := state(4, 1, "d")
	wantMerged(t, "one added", o, changed(o, added), o, changed(o, added))
	wantMerged(t, "one added, on both sides", o, changed(o, added), changed(o, added), changed(o, added))
	wantMerged(t, "two added", o, changed(o, added), changed(o, state(9, 4, "e"), state(4, 1, "d")), changed(o, added, state(9, 4, "e")))
	wantMerged(t, "ahead, between, behind", changed(o, state(20, 0, "t")), changed(o, state(20, 0, "t"), state(30, 0, "u")), changed(o, state(20, 0, "t"), state(10, 0, "v"), state(25, 0, "w")), changed(o, state(10, 0, "v"), state(20, 0, "t"), state(25, 0, "w"), state(30, 0, "u")))
	wantMerged(t, "one dropped", o, without(o, 7), o, without(o, 7))
	wantMerged(t, "one dropped, on both sides", o, without(o, 7), without(o, 7), without(o, 7))
	wantMerged(t, "two dropped", o, without(o, 3), without(o, 8), without(o, 3, 8))
	wantMerged(t, "one dropped, one added, one changed", o, changed(without(o, 7), added), changed(o, state(1, 0, "x")), changed(without(o, 7), added, state(1, 0, "x")))
	wantMerged(t, "one in the place of another one", o, changed(without(o, 7), api.Elem{ID: 9, Kind: api.Final, Parent: 5}), changed(o, with(o[2], api.FGuard, 2)), changed(without(o, 7), api.Elem{ID: 9, Kind: api.Final, Parent: 5}, with(o[2], api.FGuard, 2)))
	// An element is dropped, and one of its number is there again, as another kind: its fields are set.
	wantMerged(t, "another one of its number", o, changed(o, state(3, 0, "n")), o, changed(o, state(3, 0, "n")))
}

func TestDelete(t *testing.T) { // P14.2: dropped on one side, changed on the other one
	o := yard()
	for _, e := range o {
		gone := api.Conflict{Class: api.Delete, ID: e.ID, Field: -1}
		for field := range 9 {
			wantParted(t, "dropped, and a field set", o, without(o, e.ID), changed(o, with(e, field, 77)), gone)
		}
		wantParted(t, "dropped, and all fields set", o, without(o, e.ID), changed(o, api.Elem{ID: e.ID}), gone)
		wantParted(t, "alone", api.Chart{e}, nil, api.Chart{{ID: e.ID}}, gone)
	}
	wantParted(t, "an empty one", api.Chart{{ID: 1}}, api.Chart{}, api.Chart{{ID: 1, Action: "a"}}, api.Conflict{Class: api.Delete, ID: 1, Field: -1})
	wantParted(t, "below 0, and 0", api.Chart{{ID: math.MinInt}, {ID: -1}, {ID: 0}}, api.Chart{{ID: -1, To: 1}}, api.Chart{{ID: math.MinInt, To: 1}, {ID: 0, From: 1}},
		api.Conflict{Class: api.Delete, ID: math.MinInt, Field: -1}, api.Conflict{Class: api.Delete, ID: -1, Field: -1}, api.Conflict{Class: api.Delete, ID: 0, Field: -1})
}

func TestTwice(t *testing.T) { // P14.2: added on both sides, as two
	o := yard()
	base := api.Elem{ID: 4, Kind: api.Trans, Parent: 1, Order: 2, Name: "3", From: 4, To: 5, Event: "6", Guard: "7", Action: "8"}
	var all []api.Conflict
	for field := range 9 {
		one := api.Conflict{Class: api.Twice, ID: 4, Field: field}
		all = append(all, one)
		wantParted(t, "one field", o, changed(o, base), changed(o, with(base, field, 77)), one)
		// Empty on one side isn't what it was: it wasn't.
		wantParted(t, "one field, empty", o, changed(o, api.Elem{ID: 4}), changed(o, with(api.Elem{ID: 4}, field, 77)), one)
		wantParted(t, "of nothing", nil, api.Chart{{ID: 4}}, api.Chart{with(api.Elem{ID: 4}, field, 77)}, one)
		for other := range field {
			wantParted(t, "two fields", o, changed(o, with(base, other, 66)), changed(o, with(base, field, 77)), all[other], one)
		}
	}
	wantParted(t, "all fields", o, changed(o, base), changed(o, api.Elem{ID: 4}), all...)
	wantParted(t, "all fields", nil, api.Chart{base}, api.Chart{{ID: 4}}, all...)
}

func TestFields(t *testing.T) { // P14.2: of what both sides have each field is what Pick says; where they part: its class
	was := api.Elem{ID: 4, Kind: 100, Parent: 101, Order: 102, Name: "103", From: 104, To: 105, Event: "106", Guard: "107", Action: "108"}
	chart := func(e api.Elem) api.Chart { return api.Chart{e} }
	var all []api.Conflict
	for field, class := range kinds {
		one := api.Conflict{Class: class, ID: 4, Field: field}
		all = append(all, one)
		wantParted(t, "two values", chart(was), chart(with(was, field, 77)), chart(with(was, field, 88)), one)
		wantParted(t, "a value, and empty", chart(was), chart(with(was, field, 77)), chart(emptied(was, field)), one)
		wantParted(t, "it was empty", chart(emptied(was, field)), chart(with(was, field, 77)), chart(with(was, field, 88)), one)
		for other := range field {
			wantParted(t, "two fields", chart(was), chart(with(with(was, other, 1), field, 2)), chart(with(with(was, other, 3), field, 4)), all[other], one)
			wantParted(t, "two fields, of which one is the same", chart(was), chart(with(with(was, other, 1), field, 2)), chart(with(with(was, other, 1), field, 4)), one)
			wantParted(t, "two fields, of which one side has set one", chart(was), chart(with(with(was, other, 1), field, 2)), chart(with(was, field, 4)), one)
		}
	}
	wantParted(t, "all fields", chart(was), chart(api.Elem{ID: 4}), chart(api.Elem{ID: 4, Kind: 1, Parent: 1, Order: 1, Name: "1", From: 1, To: 1, Event: "1", Guard: "1", Action: "1"}), all...)
	wantParted(t, "kinds that part in all but one bit", chart(api.Elem{ID: 4}), chart(api.Elem{ID: 4, Kind: 255}), chart(api.Elem{ID: 4, Kind: 254}), all[0])
}

// emptied is an element with a field that is empty.
func emptied(e api.Elem, field int) api.Elem {
	v := fields(e)
	v[field] = api.Val{}
	return elem(e.ID, v)
}

func TestCellByCell(t *testing.T) { // P6, P14.2: what one side has set, and what the other one has, both hold
	o := yard()
	t3 := api.Elem{ID: 3, Kind: api.Trans, Order: 9, From: 2, To: 2, Event: "n", Guard: "", Action: "do"}
	wantMerged(t, "fields of one element", o,
		changed(o, api.Elem{ID: 3, Kind: api.Trans, Order: 9, From: 1, To: 2, Event: "n", Guard: "g", Action: "do"}),
		changed(o, api.Elem{ID: 3, Kind: api.Trans, Order: 4, From: 2, To: 2, Event: "e", Guard: "", Action: "do"}),
		changed(o, t3))
	wantMerged(t, "and one that both have set", o,
		changed(o, api.Elem{ID: 3, Kind: api.Trans, Order: 9, From: 2, To: 2, Event: "n", Guard: "g", Action: "do"}),
		changed(o, api.Elem{ID: 3, Kind: api.Trans, Order: 9, From: 2, To: 2, Event: "e", Guard: "", Action: "do"}),
		changed(o, t3))
	wantMerged(t, "a name, and a place", o, changed(o, state(1, 0, "x")), changed(o, api.Elem{ID: 1, Kind: api.State, Order: 6, Name: "a"}), changed(o, api.Elem{ID: 1, Kind: api.State, Order: 6, Name: "x"}))
	wantMerged(t, "a kind, and a place", o, changed(o, api.Elem{ID: 7, Kind: api.Final, Parent: 5}), changed(o, api.Elem{ID: 7, Kind: api.History, Parent: 6}), changed(o, api.Elem{ID: 7, Kind: api.Final, Parent: 6}))
	wantMerged(t, "a place, and one that is added there", o, changed(o, state(1, 6, "a")), changed(o, state(9, 1, "n")), changed(o, state(1, 6, "a"), state(9, 1, "n")))
	// A side that keeps no rule may be mended by the other one.
	wantMerged(t, "neither side keeps the rules", o, changed(o, api.Elem{ID: 7, Kind: api.State, Parent: 5}), changed(o, api.Elem{ID: 7, Kind: api.History, Parent: 5, Name: "h"}), changed(o, state(7, 5, "h")))
}

func TestOrderOfConflicts(t *testing.T) { // P14.2: by numbers, then fields; and whatever else both have made of it isn't told
	o := changed(yard(), state(20, 0, "t"))
	a := changed(without(o, 20), state(1, 0, "x"), with(with(o[2], api.FEvent, 1), api.FOrder, 1), state(4, 1, "d"), state(9, 0, "only a"), state(10, 5, "v"))
	b := changed(without(o, 7), api.Elem{ID: 1, Kind: api.State, Order: 8, Name: "y"}, with(with(o[2], api.FEvent, 2), api.FOrder, 2), api.Elem{ID: 4, Kind: api.Final, Parent: 1}, api.Elem{ID: 10, Kind: api.State, Parent: 5, Order: 1, Name: "v"}, state(20, 1, "t"))
	wantParted(t, "all classes", o, a, b,
		api.Conflict{Class: api.Update, ID: 1, Field: api.FName},
		api.Conflict{Class: api.Order, ID: 3, Field: api.FOrder},
		api.Conflict{Class: api.Update, ID: 3, Field: api.FEvent},
		api.Conflict{Class: api.Twice, ID: 4, Field: api.FKind},
		api.Conflict{Class: api.Twice, ID: 4, Field: api.FName},
		api.Conflict{Class: api.Twice, ID: 10, Field: api.FOrder},
		api.Conflict{Class: api.Delete, ID: 20, Field: -1},
	)
	// The rules aren't looked at while there are conflicts.
	wantParted(t, "a rule is broken, too", o, changed(o, state(1, 0, "x"), trans(9, 77, 77)), changed(o, state(1, 0, "y")), api.Conflict{Class: api.Update, ID: 1, Field: api.FName})
	wantParted(t, "a rule is broken, too, ahead of it", o, changed(o, state(0, 0, "x"), with(o[2], api.FTo, 5)), changed(o, with(o[2], api.FTo, 6)), api.Conflict{Class: api.Retarget, ID: 3, Field: api.FTo})
}

func TestRules(t *testing.T) { // P14.2: each side keeps the rules, the chart of both doesn't: the class, the element, Field -1
	o := yard()
	full := room()
	for id := 2; id <= api.MaxElems; id++ {
		full = append(full, state(id, 0, "s"+strconv.Itoa(id)))
	}
	for _, x := range []struct {
		what    string
		o, a, b api.Chart
		want    api.Conflict
	}{
		{"too many", full, changed(full, state(1, 0, "a")), changed(full, state(50, 0, "b")), api.Conflict{Class: api.Broken, ID: 0, Field: -1}},
		{"a kind, and what it hasn't", changed(o, trans(3, 1, 2)), changed(o, api.Elem{ID: 3, Kind: api.Trans, From: 1, To: 2, Event: "n"}), changed(o, state(3, 0, "n")), api.Conflict{Class: api.Broken, ID: 3, Field: -1}},
		{"two of a name", o, changed(o, state(9, 1, "n")), changed(o, state(4, 1, "n")), api.Conflict{Class: api.Broken, ID: 4, Field: -1}},
		{"two of a name, by their places", changed(o, state(4, 0, "n"), state(9, 1, "n")), changed(o, state(4, 5, "n"), state(9, 1, "n")), changed(o, state(4, 0, "n"), state(9, 5, "n")), api.Conflict{Class: api.Broken, ID: 4, Field: -1}},
		{"in what isn't there", o, without(o, 5, 7), changed(o, state(9, 5, "n")), api.Conflict{Class: api.Dangling, ID: 9, Field: -1}},
		{"in what doesn't take it", o, changed(o, api.Elem{ID: 1, Kind: api.Final}, with(o[2], api.FFrom, 2)), changed(o, state(9, 1, "n")), api.Conflict{Class: api.Dangling, ID: 9, Field: -1}},
		{"a region in what is a region", changed(o, state(9, 1, "n")), changed(o, state(9, 1, "n"), region(10, 9, "q")), changed(o, region(9, 1, "n")), api.Conflict{Class: api.Dangling, ID: 10, Field: -1}},
		{"in one another", o, changed(o, state(1, 5, "a")), changed(o, state(2, 1, "b")), api.Conflict{Class: api.Cycle, ID: 1, Field: -1}},
		{"in one another, behind others", changed(o, state(10, 0, "n"), state(12, 0, "m")), changed(o, state(10, 12, "n"), state(12, 0, "m")), changed(o, state(10, 0, "n"), state(12, 10, "m")), api.Conflict{Class: api.Cycle, ID: 10, Field: -1}},
		{"to what isn't there", o, without(o, 7), changed(o, trans(10, 2, 7)), api.Conflict{Class: api.Dangling, ID: 10, Field: -1}},
		{"from what isn't there", o, without(o, 1, 3), changed(without(o, 3), trans(10, 1, 1)), api.Conflict{Class: api.Dangling, ID: 10, Field: -1}},
		{"to what is a region", changed(o, state(9, 1, "n")), changed(o, state(9, 1, "n"), trans(10, 1, 9)), changed(o, region(9, 1, "n")), api.Conflict{Class: api.Dangling, ID: 10, Field: -1}},
		{"two of an order", o, changed(o, trans(9, 2, 1)), changed(o, trans(10, 2, 8)), api.Conflict{Class: api.Broken, ID: 9, Field: -1}},
		{"regions and others", o, changed(o, region(9, 1, "q")), changed(o, state(10, 1, "n")), api.Conflict{Class: api.Broken, ID: 1, Field: -1}},
	} {
		for _, c := range []api.Chart{x.o, x.a, x.b} {
			if f := rules.Check(c); f != (api.Fault{}) {
				t.Errorf("%s: %v, %v", x.what, c, f)
			}
		}
		wantParted(t, x.what, x.o, x.a, x.b, x.want)
	}
}

func TestFirstRule(t *testing.T) { // P14.2, P14.3: one conflict alone, of the first rule; also of charts that no side has changed
	for _, x := range []struct {
		c    api.Chart
		want api.Conflict
	}{
		{api.Chart{{ID: 0, Kind: api.State, Name: "a"}}, api.Conflict{Class: api.Broken, ID: 0, Field: -1}},
		{api.Chart{state(1, -1, "a")}, api.Conflict{Class: api.Broken, ID: 0, Field: -1}},
		{api.Chart{state(1, 0, "thirteen bytes"[:13])}, api.Conflict{Class: api.Broken, ID: 0, Field: -1}},
		{api.Chart{state(1, 0, "a"), {ID: 2}, {ID: 3}}, api.Conflict{Class: api.Broken, ID: 2, Field: -1}},
		{api.Chart{state(1, 0, "a"), {ID: 2, Kind: 6}}, api.Conflict{Class: api.Broken, ID: 2, Field: -1}},
		{api.Chart{state(1, 0, "a"), state(2, 2, ""), state(3, 9, "b")}, api.Conflict{Class: api.Broken, ID: 2, Field: -1}},
		{api.Chart{state(1, 1, "a"), state(2, 9, "b"), state(3, 9, "c")}, api.Conflict{Class: api.Dangling, ID: 2, Field: -1}},
		{api.Chart{region(4, 0, "r")}, api.Conflict{Class: api.Dangling, ID: 4, Field: -1}},
		{api.Chart{trans(1, 8, 9), state(2, 2, "a")}, api.Conflict{Class: api.Cycle, ID: 2, Field: -1}},
		{api.Chart{trans(1, 3, 3), trans(2, 3, 9), state(3, 0, "a")}, api.Conflict{Class: api.Dangling, ID: 2, Field: -1}},
		{api.Chart{trans(1, 3, 3), trans(2, 3, 3), state(3, 0, "a")}, api.Conflict{Class: api.Broken, ID: 1, Field: -1}},
		{api.Chart{state(3, 0, "a"), state(4, 3, "b"), region(5, 3, "c")}, api.Conflict{Class: api.Broken, ID: 3, Field: -1}},
	} {
		wantParted(t, "as it was", x.c, x.c, x.c, x.want)
		wantParted(t, "made by both", nil, x.c, slices.Clone(x.c), x.want)
		wantParted(t, "made by one", nil, x.c, nil, x.want)
		wantMerged(t, "dropped by one", x.c, x.c, nil, nil)
	}
	// At the limits.
	most := room()
	for id := range api.MaxElems {
		most = append(most, state(api.MaxID-api.MaxElems+1+id, 0, "twelve bytes"[:9]+strconv.Itoa(100+id)))
	}
	wantMerged(t, "as many as there may be", nil, most, nil, most)
	wantMerged(t, "half by one, half by the other one", nil, most[:20], most[20:], most)
	beyond := changed(most[1:], state(api.MaxID+1, 0, "n"))
	wantParted(t, "one beyond MaxID", nil, beyond, most[1:], api.Conflict{Class: api.Broken, ID: 0, Field: -1})
}

func TestMemory(t *testing.T) { // the rule of memory: what is handed in isn't changed, what is answered is the caller's
	o, a, b := yard(), changed(yard(), state(1, 0, "x"), state(4, 1, "d")), changed(yard(), state(2, 0, "y"), state(9, 1, "e"))
	spare := func(c api.Chart) []api.Elem { return slices.Clone(c[:cap(c)]) }
	wasO, wasA, wasB := spare(o), spare(a), spare(b)
	wantSame := func(what string) {
		t.Helper()
		if !slices.Equal(spare(o), wasO) || !slices.Equal(spare(a), wasA) || !slices.Equal(spare(b), wasB) {
			t.Error(what)
		}
	}
	for _, x := range [][3]api.Chart{{o, a, b}, {o, a, a}, {o, a, o}, {o, o, a}, {o, o, o}, {nil, nil, a}, {nil, a, a}} {
		c, l, e := All(x[0], x[1], x[2])
		if e != api.OK || len(l) > 0 || len(c) == 0 {
			t.Fatal(c, l, e)
		}
		again := slices.Clone(c)
		wantSame("a chart was changed")
		for i := range c {
			c[i] = api.Elem{ID: 77}
		}
		_ = append(c, api.Elem{ID: 78})
		wantSame("what is answered is what was handed in")
		wantMerged(t, "told again", x[0], x[1], x[2], again)
	}
	z := changed(o, state(1, 0, "z"))
	_, l, _ := All(o, a, z)
	want := slices.Clone(l)
	l[0] = api.Conflict{}
	_ = append(l, api.Conflict{ID: 78})
	wantParted(t, "told again", o, a, z, want...)
}

// plain is All, plainly, of charts that rise: by maps, cell by cell.
func plain(o, a, b api.Chart) (api.Chart, []api.Conflict) {
	var m [3]map[int]api.Elem
	ids := map[int]api.Elem{}
	for i, c := range []api.Chart{o, a, b} {
		m[i] = map[int]api.Elem{}
		for _, e := range c {
			m[i][e.ID], ids[e.ID] = e, e
		}
	}
	merged := map[int]api.Elem{}
	var l []api.Conflict
	for _, e := range ofMap(ids) {
		id := e.ID
		x, inO := m[0][id]
		y, inA := m[1][id]
		z, inB := m[2][id]
		switch {
		case inA && inB && y == z, inA && inO && y == x && inB, inB && inO && z == x && inA: // each side has it, and one alone, or none, or both the same, have changed it
			v := z
			if !inO || y != x {
				v = y
			}
			merged[id] = v
		case inA && !inB && !inO:
			merged[id] = y
		case inB && !inA && !inO:
			merged[id] = z
		case !inA && !inB, inO && !inA && z == x, inO && !inB && y == x:
		case !inA || !inB:
			l = append(l, api.Conflict{Class: api.Delete, ID: id, Field: -1})
		default:
			v, was, left, right := [9]api.Val{}, fields(x), fields(y), fields(z)
			for f := range v {
				switch {
				case left[f] == right[f]:
					v[f] = left[f]
				case !inO:
					l = append(l, api.Conflict{Class: api.Twice, ID: id, Field: f})
				case left[f] == was[f]:
					v[f] = right[f]
				case right[f] == was[f]:
					v[f] = left[f]
				default:
					l = append(l, api.Conflict{Class: kinds[f], ID: id, Field: f})
				}
			}
			merged[id] = elem(id, v)
		}
	}
	if len(l) > 0 {
		return nil, l
	}
	c := ofMap(merged)
	if f := rules.Check(c); f.Rule != 0 {
		class := []byte{0, api.Broken, api.Broken, api.Broken, api.Dangling, api.Cycle, api.Dangling, api.Broken, api.Broken}[f.Rule]
		return nil, []api.Conflict{{Class: class, ID: f.ID, Field: -1}}
	}
	return c, nil
}

// holds holds All to what it is plainly, whichever side is first.
func holds(t *testing.T, o, a, b api.Chart) (api.Chart, []api.Conflict) {
	t.Helper()
	want, parted := plain(o, a, b)
	for _, x := range [][2]api.Chart{{a, b}, {b, a}} {
		c, l, e := All(o, x[0], x[1])
		if e != api.OK || !slices.Equal(c, want) || !slices.Equal(l, parted) {
			t.Fatalf("%v, %v, %v: %v, %v, %d, not %v, %v", o, x[0], x[1], c, l, e, want, parted)
		}
	}
	return want, parted
}

func TestOneElement(t *testing.T) { // P14.2, P14.3: each of many elements, or none, on each of three sides
	var all []api.Chart
	for _, e := range []api.Elem{
		{},
		state(0, 0, "a"), state(0, 0, "b"), state(0, 0, ""),
		{Kind: api.Final}, {Kind: api.Final, Order: 1}, {Kind: api.Final, Order: 2},
		{Kind: api.State, Order: 1, Name: "b"}, {Kind: api.State, Order: 2, Name: "a"},
		{Kind: api.Trans, From: 1, To: 1, Event: "a", Guard: "b", Action: "c"}, {Kind: api.Trans, From: 1, To: 2, Event: "a", Guard: "c", Action: "c"},
		state(0, 5, "a"), state(0, 9, "a"), region(0, 5, "a"),
	} {
		e.ID = 7
		all = append(all, api.Chart{e})
	}
	all = append(all, nil)
	for _, o := range all {
		for _, a := range all {
			for _, b := range all {
				holds(t, o, a, b)
				beside := func(c api.Chart) api.Chart { return changed(c, state(5, 0, "five"), state(9, 0, "nine")) }
				holds(t, beside(o), beside(a), beside(b))
			}
		}
	}
}

// anyElem is an element of few values.
func anyElem(r *rand.Rand, id, most int) api.Elem {
	return api.Elem{ID: id, Kind: byte(r.Intn(3)), Parent: r.Intn(most + 1), Order: r.Intn(2), Name: []string{"", "a"}[r.Intn(2)], From: r.Intn(2), To: r.Intn(2), Event: []string{"", "e"}[r.Intn(2)], Guard: []string{"", "g"}[r.Intn(2)], Action: []string{"", "d"}[r.Intn(2)]}
}

// anyChart is a chart that rises, and keeps no rule but by luck.
func anyChart(r *rand.Rand, from, most int) api.Chart {
	c := room()
	for id := from; id < from+most; id++ {
		if r.Intn(4) > 0 {
			c = append(c, anyElem(r, id, most))
		}
	}
	return c
}

// near is a chart that has much of another one.
func near(r *rand.Rand, c api.Chart, from, most int) api.Chart {
	for range 1 + r.Intn(8) {
		id := from + min(r.Intn(most), r.Intn(most))
		i := slices.IndexFunc(c, func(e api.Elem) bool { return e.ID == id })
		switch {
		case i < 0:
			c = changed(c, anyElem(r, id, most))
		case r.Intn(6) == 0:
			c = without(c, id)
		default:
			c = changed(c, with(c[i], r.Intn(9), r.Intn(4)))
		}
	}
	return c
}

func TestManyCharts(t *testing.T) { // P1, P2, P14.2, P14.3: beside a plain model
	r := rand.New(rand.NewSource(14))
	seen := map[byte]int{}
	for range 40000 {
		from, most := r.Intn(3)-1, 1+r.Intn(7)
		o := anyChart(r, from, most)
		a, b := near(r, o, from, most), near(r, o, from, most)
		if r.Intn(20) == 0 {
			a, b = anyChart(r, from, most), anyChart(r, from, most)
		}
		was := slices.Concat(o, a, b)
		_, l := holds(t, o, a, b)
		if !slices.Equal(slices.Concat(o, a, b), was) {
			t.Fatal("a chart has changed")
		}
		for _, x := range l {
			seen[x.Class]++
		}
	}
	for class := api.Update; class <= api.Broken; class++ {
		if class != api.Cycle && class != api.Dangling && seen[class] < 300 {
			t.Error(class, seen)
		}
	}
}

// tree is a chart of states, regions, histories, ends and transitions that keeps the rules.
func tree(r *rand.Rand, most int) api.Chart {
	c := room()
	for range 4 * most {
		next := changed(c, leaf(r, 1+r.Intn(2*most), 2*most))
		if rules.Check(next) == (api.Fault{}) {
			c = next
		}
	}
	return c
}

// leaf is an element that is as its kind is.
func leaf(r *rand.Rand, id, most int) api.Elem {
	e := api.Elem{ID: id, Kind: []byte{api.State, api.State, api.State, api.Region, api.History, api.Final, api.Trans, api.Trans, api.Trans}[r.Intn(9)], Order: r.Intn(3)}
	if e.Kind == api.State || e.Kind == api.Region {
		e.Name = string(rune('a' + r.Intn(6)))
	}
	if e.Kind == api.Trans {
		e.From, e.To, e.Event = 1+r.Intn(most), 1+r.Intn(most), []string{"", "e"}[r.Intn(2)]
	} else if e.Kind == api.Region || r.Intn(2) == 0 {
		e.Parent = 1 + r.Intn(most)
	}
	return e
}

// grown is a chart that keeps the rules, and has much of another one.
func grown(r *rand.Rand, c api.Chart, most int) api.Chart {
	for range r.Intn(20) {
		next := c
		switch i := r.Intn(len(c) + 1); {
		case i == len(c):
			next = changed(c, leaf(r, 1+r.Intn(2*most), 2*most))
		case r.Intn(25) == 0:
			next = without(c, c[i].ID)
		case r.Intn(2) == 0:
			next = changed(c, with(c[i], api.FParent, r.Intn(2*most+1)))
		default:
			next = changed(c, with(c[i], []int{0, 2, 3, 4, 4, 5, 5, 6, 7, 8}[r.Intn(10)], 1+r.Intn(4)))
		}
		if rules.Check(next) == (api.Fault{}) {
			c = next
		}
	}
	return c
}

func TestChartsThatKeepTheRules(t *testing.T) { // P6, P14.2, P14.3: one side alone, both the same, and both
	r := rand.New(rand.NewSource(143))
	seen := map[byte]int{}
	for range 20000 {
		most := 2 + r.Intn(6)
		o := tree(r, most)
		a, b := grown(r, o, most), grown(r, o, most)
		wantMerged(t, "of a, a", o, a, a, a)
		wantMerged(t, "of a, a, of nothing", nil, a, a, a)
		wantMerged(t, "of a, o", o, a, o, a)
		wantMerged(t, "of nothing, nothing", nil, a, nil, a)
		c, l := holds(t, o, a, b)
		for _, x := range l {
			seen[x.Class]++
		}
		if len(l) == 0 && !slices.Equal(c, a) && !slices.Equal(c, b) {
			seen[0]++
		}
	}
	for class := byte(0); class <= api.Broken; class++ {
		if seen[class] < 25 {
			t.Error(class, seen)
		}
	}
}

func TestEditsOfBothSides(t *testing.T) { // P6, P14.2: cells that are set on either side are set in the end, as if one had come behind the other one
	r := rand.New(rand.NewSource(6))
	merged := 0
	for range 8000 {
		o := tree(r, 8)
		var l [2][]api.Edit
		for _, e := range o {
			for field := range 9 {
				was := fields(e)[field]
				is := fields(with(e, field, 1+r.Intn(9)))[field]
				has := e.Kind == api.Trans
				if field == api.FName {
					has = e.Kind <= api.Region
				}
				if field >= api.FOrder && (field == api.FOrder || has) && is != was && r.Intn(8) == 0 {
					side := r.Intn(2)
					l[side] = append(l[side], api.Edit{Op: api.Set, E: api.Elem{ID: e.ID}, Field: field, Old: was, New: is})
				}
			}
		}
		a, _, e := edit.Apply(o, l[0])
		b, _, f := edit.Apply(o, l[1])
		want, _, g := edit.Apply(a, l[1])
		if e != api.OK || f != api.OK || g != api.OK {
			continue
		}
		if rules.Check(want) != (api.Fault{}) {
			if c, l, e := All(o, a, b); e != api.OK || len(c) > 0 || len(l) != 1 || l[0].Field != -1 {
				t.Fatal(c, l, e)
			}
			continue
		}
		wantMerged(t, "both", o, a, b, want)
		if len(l[0]) > 0 && len(l[1]) > 0 {
			merged++
		}
	}
	if merged < 500 {
		t.Error(merged)
	}
}

func TestManyElements(t *testing.T) { // P1: it ends soon
	const n = 100000
	o, a, b := make(api.Chart, n), make(api.Chart, n), make(api.Chart, n)
	for i := range n {
		o[i] = api.Elem{ID: i + 1, Parent: i, Name: "o"}
		a[i] = api.Elem{ID: i + 1, Parent: i + 2, Name: "a"}
		b[i] = api.Elem{ID: i + 1, Parent: i, Name: "b"}
	}
	_, l, e := All(o, a, b)
	if e != api.OK || len(l) != n {
		t.Fatal(len(l), e)
	}
	for i, x := range l {
		if x != (api.Conflict{Class: api.Update, ID: i + 1, Field: api.FName}) {
			t.Fatal(x)
		}
	}
	if _, l, _ := All(nil, a, b); len(l) != 2*n {
		t.Error(len(l))
	}
	if _, l, _ := All(o, nil, b); len(l) != n {
		t.Error(len(l))
	}
	wantMerged(t, "all dropped", o, nil, o, nil)
	wantParted(t, "far too many", o, a, o, api.Conflict{Class: api.Broken, ID: 0, Field: -1})
}
