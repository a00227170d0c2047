package diff

import (
	"cmp"
	"math"
	"math/rand"
	"slices"
	"strconv"
	"testing"

	"interleaf/api"
	"interleaf/chart"
	"interleaf/edit"
	"interleaf/rules"
)

// full is an element none of whose fields is like another one.
var full = api.Elem{ID: 7, Kind: api.Trans, Parent: 4, Order: 12, Name: "name", From: 13, To: 14, Event: "event", Guard: "guard", Action: "action"}

// of is a chart by its elements' numbers, and what they stand in.
func of(l ...[2]int) api.Chart {
	var c api.Chart
	for _, x := range l {
		c = append(c, api.Elem{ID: x[0], Parent: x[1], Name: "n" + strconv.Itoa(x[0])})
	}
	return c
}

// rising is a chart of elements in any order.
func rising(c api.Chart) api.Chart {
	slices.SortFunc(c, func(x, y api.Elem) int { return cmp.Compare(x.ID, y.ID) })
	return c
}

// picked are elements of a chart, in a row by their numbers.
func picked(t *testing.T, c api.Chart, ids []int) []api.Elem {
	t.Helper()
	var l []api.Elem
	for _, id := range ids {
		i := slices.IndexFunc(c, func(e api.Elem) bool { return e.ID == id })
		if i < 0 {
			t.Fatalf("there is no %d in %v", id, c)
		}
		l = append(l, c[i])
	}
	return l
}

func edits(op byte, c ...api.Elem) []api.Edit {
	var l []api.Edit
	for _, e := range c {
		l = append(l, api.Edit{Op: op, E: e})
	}
	return l
}

func set(id, field int, was, is api.Val) api.Edit {
	return api.Edit{Op: api.Set, E: api.Elem{ID: id}, Field: field, Old: was, New: is}
}

// fields is all fields of an element, by hand.
func fields(e api.Elem) [9]api.Val {
	return [9]api.Val{{N: int(e.Kind)}, {N: e.Parent}, {N: e.Order}, {S: e.Name}, {N: e.From}, {N: e.To}, {S: e.Event}, {S: e.Guard}, {S: e.Action}}
}

func wantEdits(t *testing.T, what string, a, b api.Chart, want ...api.Edit) {
	t.Helper()
	if l, e := Of(a, b); e != api.OK || !slices.Equal(l, want) {
		t.Errorf("%s: %v, %d, not %v", what, l, e, want)
	}
}

// wantAdded holds the Adds of a chart to a row of numbers, and the Drops, on the way back, to that row from its end on.
func wantAdded(t *testing.T, what string, a, b api.Chart, ids ...int) {
	t.Helper()
	l := picked(t, b, ids)
	wantEdits(t, what, a, b, edits(api.Add, l...)...)
	slices.Reverse(l)
	wantEdits(t, what+", dropped", b, a, edits(api.Drop, l...)...)
}

func refused(t *testing.T, what string, a, b api.Chart, want api.Errno) {
	t.Helper()
	if l, e := Of(a, b); e != want || len(l) > 0 {
		t.Errorf("%s: %v, %d, not %d", what, l, e, want)
	}
}

func TestExample(t *testing.T) { // P13.1: the chapter's example, of whatever charts rise
	for _, c := range []api.Chart{
		nil,
		{},
		{full},
		of([2]int{1, 0}),
		of([2]int{1, 0}, [2]int{2, 1}, [2]int{3, 2}),
		of([2]int{5, 5}),
		of([2]int{5, 6}, [2]int{6, 5}, [2]int{7, 99}),
		of([2]int{math.MinInt, -1}, [2]int{-1, 0}, [2]int{0, 0}, [2]int{math.MaxInt, 0}),
	} {
		wantEdits(t, "itself", c, c)
		wantEdits(t, "a copy of it", c, slices.Clone(c))
	}
	wantEdits(t, "none, and none", nil, api.Chart{})
	wantEdits(t, "none, and none", api.Chart{}, nil)
}

func TestAddsAndDrops(t *testing.T) { // P13.1: as they come, and the other way round
	for _, none := range []api.Chart{nil, {}} {
		wantAdded(t, "one", none, api.Chart{{ID: 1}}, 1)
		wantAdded(t, "side by side", none, of([2]int{-3, 0}, [2]int{1, 0}, [2]int{4, 0}, [2]int{9, 0}), -3, 1, 4, 9)
		wantAdded(t, "each in the one ahead", none, of([2]int{1, 0}, [2]int{2, 1}, [2]int{3, 2}, [2]int{4, 3}), 1, 2, 3, 4)
		wantAdded(t, "each in the next one", none, of([2]int{1, 2}, [2]int{2, 3}, [2]int{3, 4}, [2]int{4, 0}), 4, 3, 2, 1)
		wantAdded(t, "in the one that was just taken", none, of([2]int{1, 0}, [2]int{2, 1}, [2]int{3, 0}, [2]int{4, 2}), 1, 2, 3, 4)
		wantAdded(t, "three times through", none, of([2]int{1, 4}, [2]int{2, 1}, [2]int{3, 5}, [2]int{4, 0}, [2]int{5, 2}, [2]int{6, 4}), 4, 6, 1, 2, 5, 3)
		wantAdded(t, "deep ones ahead of high ones", none, of([2]int{1, 9}, [2]int{2, 0}, [2]int{3, 2}, [2]int{4, 3}, [2]int{5, 4}, [2]int{9, 5}), 2, 3, 4, 5, 9, 1)
		wantAdded(t, "two rows", none, of([2]int{1, 3}, [2]int{2, 8}, [2]int{3, 6}, [2]int{6, 0}, [2]int{7, 2}, [2]int{8, 0}), 6, 8, 2, 3, 7, 1)
		wantAdded(t, "below 0", none, of([2]int{math.MinInt, -2}, [2]int{-5, math.MaxInt}, [2]int{-2, 0}, [2]int{math.MaxInt, math.MinInt}), -2, math.MinInt, math.MaxInt, -5)
		wantAdded(t, "0 is nothing, though it is a number", none, of([2]int{0, 7}, [2]int{2, 0}, [2]int{7, 0}), 2, 7, 0)
		wantAdded(t, "0 in nothing", none, of([2]int{-1, 0}, [2]int{0, 0}, [2]int{1, 0}), -1, 0, 1)
		wantAdded(t, "a full one", none, api.Chart{{ID: 4, Kind: 200}, full}, 4, 7)
		wantAdded(t, "From and To are nothing to stand in", none, api.Chart{{ID: 1, From: 2, To: 2}, {ID: 2, From: 99, To: 98}}, 1, 2)
	}
}

func TestAddsToWhatIsThere(t *testing.T) { // P13.1: whose Parent is a's
	a := of([2]int{3, 0}, [2]int{5, 0})
	plus := func(l ...[2]int) api.Chart { return rising(append(of(l...), a...)) }
	wantAdded(t, "ahead and behind", a, plus([2]int{1, 5}, [2]int{2, 0}, [2]int{4, 3}, [2]int{6, 5}), 1, 2, 4, 6)
	wantAdded(t, "in one that is in one", a, plus([2]int{1, 4}, [2]int{2, 1}, [2]int{4, 5}, [2]int{6, 1}), 4, 1, 2, 6)
	lost := api.Chart{{ID: 3, Parent: 99}, {ID: 5, Parent: 5}}
	wantAdded(t, "in what is lost, or in itself", lost, api.Chart{{ID: 1, Parent: 3}, {ID: 2, Parent: 5}, lost[0], lost[1]}, 1, 2)
	// What stands in something of the other chart alone is taken as well: Apply refuses it.
	b := of([2]int{1, 3}, [2]int{2, 5})
	wantEdits(t, "in what is dropped", a, b, append(edits(api.Add, b...), edits(api.Drop, a[1], a[0])...)...)
	wantEdits(t, "dropped, in what was added", b, a, append(edits(api.Add, a...), edits(api.Drop, b[1], b[0])...)...)
	c := of([2]int{2, 6}, [2]int{4, 3}, [2]int{6, 4})
	wantEdits(t, "in what is in what is dropped", a, c, append(edits(api.Add, c[1], c[2], c[0]), edits(api.Drop, a[1], a[0])...)...)
}

func TestSets(t *testing.T) { // P13.1: each field that isn't the same
	bare, names := api.Elem{ID: 7}, [9]string{"Kind", "Parent", "Order", "Name", "From", "To", "Event", "Guard", "Action"}
	if len(names) != api.Fields {
		t.Fatal("other fields")
	}
	ones := [9]api.Elem{{Kind: full.Kind}, {Parent: full.Parent}, {Order: full.Order}, {Name: full.Name}, {From: full.From}, {To: full.To}, {Event: full.Event}, {Guard: full.Guard}, {Action: full.Action}}
	var all, back []api.Edit
	for f, e := range ones {
		e.ID = 7
		is := fields(full)[f]
		wantEdits(t, names[f], api.Chart{bare}, api.Chart{e}, set(7, f, api.Val{}, is))
		wantEdits(t, names[f]+" to nothing", api.Chart{e}, api.Chart{bare}, set(7, f, is, api.Val{}))
		all, back = append(all, set(7, f, api.Val{}, is)), append(back, set(7, f, is, api.Val{}))
	}
	wantEdits(t, "all fields", api.Chart{bare}, api.Chart{full}, all...)
	wantEdits(t, "all fields to nothing", api.Chart{full}, api.Chart{bare}, back...)
	wantEdits(t, "another value", api.Chart{{ID: 1, Kind: 255, Order: -1, Guard: "a"}}, api.Chart{{ID: 1, Kind: 254, Order: math.MinInt, Guard: "A"}},
		set(1, api.FKind, api.Val{N: 255}, api.Val{N: 254}), set(1, api.FOrder, api.Val{N: -1}, api.Val{N: math.MinInt}), set(1, api.FGuard, api.Val{S: "a"}, api.Val{S: "A"}))
	a := api.Chart{{ID: -4}, {ID: 0}, {ID: 2, Name: "same"}, {ID: 3, To: 5}, {ID: 9, Event: "x"}}
	b := api.Chart{{ID: -4, Order: 2}, {ID: 0, Name: "n"}, {ID: 2, Name: "same"}, {ID: 3, From: 5}, {ID: 9, Kind: 1, Action: "x"}}
	wantEdits(t, "element by element, field by field", a, b,
		set(-4, api.FOrder, api.Val{}, api.Val{N: 2}),
		set(0, api.FName, api.Val{}, api.Val{S: "n"}),
		set(3, api.FFrom, api.Val{}, api.Val{N: 5}), set(3, api.FTo, api.Val{N: 5}, api.Val{}),
		set(9, api.FKind, api.Val{}, api.Val{N: 1}), set(9, api.FEvent, api.Val{S: "x"}, api.Val{}), set(9, api.FAction, api.Val{}, api.Val{S: "x"}))
	// What both have may stand in what isn't there, in itself, in a ring.
	wantEdits(t, "into itself", of([2]int{1, 99}, [2]int{2, 0}), of([2]int{1, 1}, [2]int{2, 98}),
		set(1, api.FParent, api.Val{N: 99}, api.Val{N: 1}), set(2, api.FParent, api.Val{}, api.Val{N: 98}))
}

func TestAllKinds(t *testing.T) { // P13.1: Adds, Sets, Drops, in this order
	a := api.Chart{{ID: 1, Name: "a"}, {ID: 2, Parent: 1}, {ID: 4, Parent: 8}, {ID: 6, Parent: 2, Order: 1}, {ID: 8, Parent: 6}}
	b := api.Chart{{ID: 3, Parent: 5}, {ID: 5, Parent: 6}, {ID: 6, Parent: 7}, {ID: 7}, {ID: 8, Parent: 3, Kind: 1}}
	want := slices.Concat(
		edits(api.Add, b[1], b[3], b[0]),
		[]api.Edit{
			set(6, api.FParent, api.Val{N: 2}, api.Val{N: 7}), set(6, api.FOrder, api.Val{N: 1}, api.Val{}),
			set(8, api.FKind, api.Val{}, api.Val{N: 1}), set(8, api.FParent, api.Val{N: 6}, api.Val{N: 3}),
		},
		edits(api.Drop, a[2], a[1], a[0]),
	)
	wantEdits(t, "all", a, b, want...)
	if c, _, e := edit.Apply(a, want); e != api.OK || !slices.Equal(c, b) {
		t.Error(c, e)
	}
}

func TestErrForm(t *testing.T) { // P13.1: ahead of ErrParent
	for _, ids := range [][]int{{1, 1}, {2, 1}, {0, 0}, {1, 2, 2}, {1, 3, 2}, {-1, -2}, {math.MaxInt, math.MinInt}} {
		var c api.Chart
		for _, id := range ids {
			c = append(c, api.Elem{ID: id})
		}
		for _, other := range []api.Chart{nil, {}, of([2]int{1, 0}, [2]int{2, 0}), of([2]int{1, 99}), of([2]int{5, 5}), c} {
			refused(t, "from one that doesn't rise", c, other, api.ErrForm)
			refused(t, "to one that doesn't rise", other, c, api.ErrForm)
		}
	}
	refused(t, "what stands in nothing that is", api.Chart{{ID: 2, Parent: 9}, {ID: 1, Parent: 9}}, nil, api.ErrForm)
}

func TestErrParent(t *testing.T) { // P13.1: one is never taken
	beside := of([2]int{20, 0}, [2]int{30, 40}) // 30 stands in what isn't there, and is in both
	for what, l := range map[string][][2]int{
		"in what isn't there":           {{1, 9}},
		"in what isn't there, below 0":  {{1, -9}},
		"in itself":                     {{1, 1}},
		"in itself, beside another one": {{1, 0}, {2, 2}, {3, 1}},
		"in one another":                {{1, 2}, {2, 1}},
		"in a ring of three":            {{1, 3}, {2, 1}, {3, 2}},
		"in a ring, not of it":          {{1, 3}, {2, 2}, {3, 2}},
		"deep, in what isn't there":     {{1, 2}, {2, 3}, {3, 9}},
		"the last one":                  {{1, 0}, {2, 1}, {3, 2}, {4, 9}},
		"the first one":                 {{1, 9}, {2, 0}, {3, 2}},
		"in what 30 stands in":          {{1, 40}},
		"0, in a ring, not of it":       {{0, 1}, {1, 2}, {2, 1}},
		"at the ends":                   {{math.MinInt, math.MaxInt}, {math.MaxInt, math.MinInt}},
	} {
		c := of(l...)
		refused(t, what+": added", nil, c, api.ErrParent)
		refused(t, what+": dropped", c, nil, api.ErrParent)
		refused(t, what+": dropped, for others", c, beside, api.ErrParent)
		both := rising(slices.Concat(c, beside))
		refused(t, what+": added to others", beside, both, api.ErrParent)
		refused(t, what+": dropped from others", both, beside, api.ErrParent)
		wantEdits(t, what+": in both", c, c)
	}
	refused(t, "added and dropped", of([2]int{1, 1}), of([2]int{2, 2}), api.ErrParent)
	refused(t, "added, though what it stands in is dropped into it", of([2]int{1, 1}), of([2]int{2, 1}), api.ErrParent)
	refused(t, "beside Sets, and what is taken", api.Chart{{ID: 1}, {ID: 2}}, api.Chart{{ID: 1, Order: 1}, {ID: 3}, {ID: 4, Parent: 5}}, api.ErrParent)
	// One that stands in a chart's own element, which the other one hasn't, is taken: each has what the other one's needs.
	wantEdits(t, "in one another's", of([2]int{1, 2}), of([2]int{2, 1}), append(edits(api.Add, of([2]int{2, 1})...), edits(api.Drop, of([2]int{1, 2})...)...)...)
}

func TestTouched(t *testing.T) { // P13.2
	for _, none := range [][]api.Edit{nil, {}} {
		if ids := Touched(none); len(ids) > 0 {
			t.Error(ids)
		}
	}
	l := []api.Edit{
		set(9, api.FParent, api.Val{N: 77}, api.Val{N: 78}),
		{Op: api.Add, E: api.Elem{ID: 4, Parent: 76, From: 75, To: 74}},
		{Op: api.Drop, E: api.Elem{ID: -4}},
		set(9, api.FName, api.Val{}, api.Val{S: "x"}),
		{Op: api.Drop, E: api.Elem{ID: 4}},
		{Op: api.Add, E: api.Elem{ID: math.MaxInt}},
		{Op: 99, E: api.Elem{ID: 5}, Field: 73}, // one that may not be touches as others do
		{},
		{Op: api.Add, E: api.Elem{ID: math.MinInt}},
		set(9, api.FParent, api.Val{N: 78}, api.Val{N: 77}),
	}
	if ids := Touched(l); !slices.Equal(ids, []int{math.MinInt, -4, 0, 4, 5, 9, math.MaxInt}) {
		t.Error(ids)
	}
	for i, x := range l {
		if ids := Touched(l[i : i+1]); !slices.Equal(ids, []int{x.E.ID}) {
			t.Errorf("%v: %v", x, ids)
		}
	}
	a := api.Chart{{ID: 1}, {ID: 2, Parent: 1}, {ID: 3}, {ID: 4}}
	b := api.Chart{{ID: 3}, {ID: 4, Order: 1, Name: "x"}, {ID: 5, Parent: 6}, {ID: 6}}
	l, _ = Of(a, b)
	if ids := Touched(l); !slices.Equal(ids, []int{1, 2, 4, 5, 6}) {
		t.Error(ids)
	}
}

func TestNothingIsShared(t *testing.T) { // the rule on memory
	room := func(c api.Chart) api.Chart { return append(make(api.Chart, 0, 40), c...) } // an append would write behind it
	a := room(of([2]int{1, 3}, [2]int{2, 1}, [2]int{3, 0}, [2]int{4, 0}))
	b := room(of([2]int{4, 5}, [2]int{5, 6}, [2]int{6, 0}))
	wasA, wasB := slices.Clone(a[:40]), slices.Clone(b[:40])
	l, e := Of(a, b)
	if e != api.OK || len(l) != 6 {
		t.Fatal(l, e)
	}
	again := slices.Clone(l)
	ids := Touched(l)
	for i := range ids {
		ids[i] = 77
	}
	_ = append(ids, 78)
	if !slices.Equal(l, again) {
		t.Error("the edits have changed")
	}
	for i := range l {
		l[i] = api.Edit{Op: 77}
	}
	_ = append(l, api.Edit{Op: 78})
	if !slices.Equal(a[:40], wasA) || !slices.Equal(b[:40], wasB) {
		t.Error("the charts have changed")
	}
	wantEdits(t, "told again", a, b, again...)
}

// taken is the order in which a chart's elements that another one hasn't are taken, plainly: it is gone through till none is. false: one never is.
func taken(c, other api.Chart) ([]api.Elem, bool) {
	known, alone := map[int]bool{0: true}, 0
	for _, e := range other {
		known[e.ID] = true
	}
	done := map[int]bool{}
	for _, e := range other {
		done[e.ID] = true
	}
	for _, e := range c {
		if !done[e.ID] {
			alone++
		}
	}
	var l []api.Elem
	for more := true; more; {
		more = false
		for _, e := range c {
			if !done[e.ID] && known[e.Parent] {
				done[e.ID], known[e.ID], more = true, true, true
				l = append(l, e)
			}
		}
	}
	return l, len(l) == alone
}

// between is Of, plainly, of charts that rise.
func between(a, b api.Chart) ([]api.Edit, api.Errno) {
	added, there := taken(b, a)
	dropped, back := taken(a, b)
	if !there || !back {
		return nil, api.ErrParent
	}
	l := edits(api.Add, added...)
	for _, x := range a {
		for _, y := range b {
			for f := range api.Fields {
				if was, is := fields(x)[f], fields(y)[f]; x.ID == y.ID && was != is {
					l = append(l, set(x.ID, f, was, is))
				}
			}
		}
	}
	for i := len(dropped) - 1; i >= 0; i-- {
		l = append(l, edits(api.Drop, dropped[i])...)
	}
	return l, api.OK
}

// holds holds Of to what it is plainly.
func holds(t *testing.T, a, b api.Chart) ([]api.Edit, api.Errno) {
	t.Helper()
	want, errno := between(a, b)
	l, e := Of(a, b)
	if e != errno || !slices.Equal(l, want) {
		t.Fatalf("%v, %v: %v, %d, not %v, %d", a, b, l, e, want, errno)
	}
	return l, e
}

// each calls a function with each chart of the numbers 0 to n-1 that stand in -1 (which isn't there) to n-1, or, where some may miss, aren't there.
func each(n int, miss bool, do func(c api.Chart)) {
	ways := n + 1
	if miss {
		ways++
	}
	all := 1
	for range n {
		all *= ways
	}
	for x := range all {
		var c api.Chart
		for id := range n {
			if in := x%ways - 1; in < n {
				c = append(c, api.Elem{ID: id, Parent: in})
			}
			x /= ways
		}
		do(c)
	}
}

func TestAllSmallCharts(t *testing.T) { // P13.1: whatever stands in what
	each(3, true, func(a api.Chart) {
		each(3, true, func(b api.Chart) { holds(t, a, b) })
	})
	beside := api.Chart{{ID: 2}, {ID: 5, Parent: 9}}
	each(5, false, func(c api.Chart) {
		holds(t, nil, c)
		holds(t, c, beside)
		for i := range c { // 1 to 5, and so none is 0
			c[i].ID++
			c[i].Parent++
		}
		holds(t, nil, c)
		holds(t, beside, c)
	})
}

// anyChart is a chart that rises; most of what its elements stand in is there.
func anyChart(r *rand.Rand, from, most int) api.Chart {
	var c api.Chart
	for id := from; id < from+most; id++ {
		if r.Intn(4) == 0 {
			continue
		}
		e := api.Elem{ID: id, Kind: byte(r.Intn(3)), Parent: from + r.Intn(most), Order: r.Intn(2), Name: []string{"", "a", "b"}[r.Intn(3)], From: r.Intn(2), To: r.Intn(2)}
		if r.Intn(2) == 0 {
			e.Parent = 0
		}
		if r.Intn(3) == 0 {
			e.Event, e.Guard, e.Action = []string{"", "e"}[r.Intn(2)], []string{"", "g"}[r.Intn(2)], []string{"", "a"}[r.Intn(2)]
		}
		c = append(c, e)
	}
	return c
}

func TestManyCharts(t *testing.T) { // P1, P2, P13.1: beside a plain model
	r := rand.New(rand.NewSource(13))
	seen := map[api.Errno]int{}
	for range 40000 {
		from, most := r.Intn(4)-2, 1+r.Intn(9)
		a, b := anyChart(r, from, most), anyChart(r, from, most)
		wasA, wasB := slices.Clone(a), slices.Clone(b)
		l, e := holds(t, a, b)
		if !slices.Equal(a, wasA) || !slices.Equal(b, wasB) {
			t.Fatal("a chart has changed")
		}
		ids := map[int]bool{}
		for _, x := range l {
			ids[x.E.ID] = true
		}
		got := Touched(l)
		for i, id := range got {
			if !ids[id] || i > 0 && got[i-1] >= id {
				t.Fatalf("%v: %v", l, got)
			}
		}
		if len(got) != len(ids) {
			t.Fatalf("%v: %v", l, got)
		}
		seen[e]++
	}
	if seen[api.OK] < 1000 || seen[api.ErrParent] < 1000 {
		t.Error(seen)
	}
}

// tree is a chart that keeps the rules: what its elements stand in, and which they are, is any.
func tree(r *rand.Rand, most int) api.Chart {
	holds := map[int]int{} // what an element takes: 0: nothing, 1: all but regions, 2: regions
	up := []int{0}         // what takes something
	var inside, states, ends []int
	m := map[int]api.Elem{}
	for _, i := range r.Perm(most)[:r.Intn(most+1)] {
		e := api.Elem{ID: i + 1, Parent: up[r.Intn(len(up))], Order: r.Intn(3)}
		if r.Intn(3) == 0 {
			e.Parent = up[len(up)-1] // deep ones
		}
		switch {
		case holds[e.Parent] == 2:
			e.Kind = api.Region
		case r.Intn(6) == 0:
			e.Kind = []byte{api.History, api.Final}[r.Intn(2)]
		case r.Intn(4) == 0 && len(states) > 0 && len(ends) > 0:
			e = api.Elem{ID: e.ID, Kind: api.Trans, Order: e.ID + most*r.Intn(2), From: states[r.Intn(len(states))], To: ends[r.Intn(len(ends))]}
			e.Event, e.Guard, e.Action = []string{"", "e", "f"}[r.Intn(3)], []string{"", "g"}[r.Intn(2)], []string{"", "a"}[r.Intn(2)]
		default:
			e.Kind = api.State
			states = append(states, e.ID)
		}
		if e.Kind != api.Trans && e.Kind != api.Region {
			ends = append(ends, e.ID)
		}
		if e.Kind == api.State || e.Kind == api.Region {
			e.Name = []string{"n", "m"}[r.Intn(2)] + strconv.Itoa(e.ID)
			up = append(up, e.ID)
			holds[e.ID] = 1
			if e.Kind == api.State && r.Intn(3) == 0 {
				holds[e.ID] = 2
			}
		}
		m[e.ID] = e
		inside = append(inside, e.ID)
	}
	slices.Sort(inside)
	var c api.Chart
	for _, id := range inside {
		c = append(c, m[id])
	}
	return c
}

// leads holds Of to lead from a chart to another one, and back.
func leads(t *testing.T, a, b api.Chart) {
	t.Helper()
	l, e := Of(a, b)
	if e != api.OK || (len(l) == 0) != slices.Equal(a, b) {
		t.Fatalf("%v, %v: %v, %d", a, b, l, e)
	}
	if c, at, e := edit.Apply(a, l); e != api.OK || at != 0 || !slices.Equal(c, b) {
		t.Fatalf("%v, %v: there: %v, %d, %d", a, b, c, at, e)
	}
	if c, at, e := edit.Apply(b, edit.Invert(l)); e != api.OK || at != 0 || !slices.Equal(c, a) {
		t.Fatalf("%v, %v: back: %v, %d, %d", a, b, c, at, e)
	}
}

func TestThereAndBack(t *testing.T) { // P5, P13.2: of charts that keep the rules
	r := rand.New(rand.NewSource(132))
	var kept, large, equal int
	for range 12000 {
		most := 1 + r.Intn(12)
		if r.Intn(8) == 0 {
			most = api.MaxElems
		}
		a, b := tree(r, most), tree(r, most)
		if r.Intn(10) == 0 {
			b = slices.Clone(a)
		}
		if rules.Check(a) != (api.Fault{}) || rules.Check(b) != (api.Fault{}) {
			continue
		}
		leads(t, a, b)
		holds(t, a, b)
		kept++
		if len(a) > 30 && len(b) > 30 {
			large++
		}
		if len(a) > 3 && chart.Equal(a, b) {
			equal++
		}
	}
	if kept < 10000 || large < 50 || equal < 500 {
		t.Error(kept, large, equal)
	}
}

func TestNestsTurned(t *testing.T) { // P5, P13.2: as many elements as there may be, each in the next one, or in the one ahead
	nest := func(from, to, step int) api.Chart {
		var c api.Chart
		for id := from; id < to; id++ {
			e := api.Elem{ID: id, Kind: api.State, Parent: id + step, Name: "s"}
			if e.Parent < from || e.Parent >= to {
				e.Parent = 0
			}
			c = append(c, e)
		}
		return c
	}
	n := api.MaxElems
	charts := []api.Chart{nil, nest(1, n+1, 1), nest(1, n+1, -1), nest(n+1, 2*n+1, 1), nest(n/2, n/2+n, -1), nest(n/2, n/2+n, 1), nest(api.MaxID-n+1, api.MaxID+1, 1), nest(1, n/2, 1)}
	for _, a := range charts {
		if f := rules.Check(a); f != (api.Fault{}) {
			t.Fatal(f)
		}
		for _, b := range charts {
			leads(t, a, b)
			holds(t, a, b)
		}
	}
}

func TestManyElements(t *testing.T) { // P1: it ends soon, whatever stands in what
	const n = 100000
	down, up, ring := make(api.Chart, n), make(api.Chart, n), make(api.Chart, n)
	for i := range n {
		down[i] = api.Elem{ID: i + 1, Parent: (i + 2) % (n + 1)} // the last one in 0
		up[i] = api.Elem{ID: i + 1, Parent: i}
		ring[i] = api.Elem{ID: i + 1, Parent: (i+1)%n + 1}
	}
	for _, c := range []api.Chart{down, up} {
		l, e := Of(nil, c)
		if e != api.OK || len(l) != n {
			t.Fatal(len(l), e)
		}
		for i, x := range l {
			want := c[i]
			if c[0].Parent != 0 {
				want = c[n-1-i]
			}
			if x != (api.Edit{Op: api.Add, E: want}) {
				t.Fatalf("%d: %v", i, x)
			}
		}
		back, e := Of(c, nil)
		if e != api.OK || !slices.Equal(back, edit.Invert(l)) {
			t.Fatal(len(back), e)
		}
	}
	for _, x := range [][2]api.Chart{{nil, ring}, {ring, nil}} {
		if l, e := Of(x[0], x[1]); e != api.ErrParent || len(l) > 0 {
			t.Error(len(l), e)
		}
	}
	if l, e := Of(ring, up); e != api.OK || len(l) != n {
		t.Error(len(l), e)
	}
}
