package rules

import (
	"math"
	"math/rand"
	"slices"
	"strings"
	"testing"

	"interleaf/api"
)

// twelve is a text at the limit.
const twelve = "abcdefghijkl"

func state(id, in int, name string) api.Elem {
	return api.Elem{ID: id, Kind: api.State, Parent: in, Name: name}
}

func region(id, in int, name string) api.Elem {
	return api.Elem{ID: id, Kind: api.Region, Parent: in, Name: name}
}

func history(id, in int) api.Elem {
	return api.Elem{ID: id, Kind: api.History, Parent: in}
}

func final(id, in int) api.Elem {
	return api.Elem{ID: id, Kind: api.Final, Parent: in}
}

func trans(id, from, to, order int) api.Elem {
	return api.Elem{ID: id, Kind: api.Trans, From: from, To: to, Order: order}
}

// house is a chart that keeps all rules: all kinds, regions side by side, a name that is used in several places.
func house() api.Chart {
	return api.Chart{
		state(1, 0, "on"),
		region(2, 1, "left"),
		region(3, 1, "right"),
		state(4, 2, "a"),
		state(5, 3, "a"),
		history(6, 2),
		final(7, 3),
		state(8, 0, "off"),
		state(9, 4, "a"),
		{ID: 10, Kind: api.Trans, From: 1, To: 8, Event: "go", Guard: "x>1", Action: "do()"},
		trans(11, 1, 6, 1),
		trans(12, 9, 7, 1),
		trans(13, 8, 8, 0),
		final(14, 0),
		history(15, 0),
	}
}

// with is a chart in which some elements stand in the place of those of their numbers, or behind.
func with(c api.Chart, l ...api.Elem) api.Chart {
	for _, e := range l {
		i := slices.IndexFunc(c, func(o api.Elem) bool { return o.ID == e.ID })
		if i < 0 {
			c = append(c, e)
			continue
		}
		c[i] = e
	}
	return c
}

func want(t *testing.T, what string, c api.Chart, rule, id int) {
	t.Helper()
	if got, f := Check(c), (api.Fault{Rule: rule, ID: id}); got != f {
		t.Errorf("%s: %v, not %v", what, got, f)
	}
}

func TestExample(t *testing.T) { // P11.1: the chapter's example
	want(t, "a Region at 0", api.Chart{region(1, 0, "r")}, Parents, 1)
}

func TestNumbers(t *testing.T) { // P11.1: the rules, by their numbers
	got := [...]int{Form, Kinds, Names, Parents, Rings, Ends, Orders, Mixed}
	if got != [...]int{1, 2, 3, 4, 5, 6, 7, 8} {
		t.Error(got)
	}
}

func TestNone(t *testing.T) { // P11.1: of none the rule 0, and 0
	deep := api.Chart{state(1, 0, "a")}
	for id := 2; id <= 40; id++ {
		deep = append(deep, state(id, id-1, "a"))
	}
	down := api.Chart{state(40, 0, "a")}
	for id := 39; id >= 1; id-- {
		down = append(api.Chart{state(id, id+1, "a")}, down...)
	}
	for what, c := range map[string]api.Chart{
		"nil":               nil,
		"empty":             {},
		"a state":           {state(1, 0, "a")},
		"the last number":   {state(1<<20, 0, twelve)},
		"a final":           {final(3, 0)},
		"a history":         {history(3, 0)},
		"orders of others":  {{ID: 1, Kind: api.History, Order: 5}, {ID: 2, Kind: api.Final, Order: 5}, {ID: 3, Kind: api.State, Order: 5, Name: "a"}},
		"two histories":     {state(1, 0, "a"), history(2, 1), history(3, 1), final(4, 1), final(5, 1)},
		"a region alone":    {state(1, 0, "a"), region(2, 1, "a")},
		"what stands ahead": {state(1, 9, "a"), state(9, 0, "a")},
		"names by case":     {state(1, 0, "a"), state(2, 0, "A"), state(3, 0, " "), state(4, 0, "\x00")},
		"to itself":         {state(1, 0, "a"), trans(2, 1, 1, 0), trans(3, 1, 1, 1)},
		"one order of two":  {state(1, 0, "a"), state(2, 0, "b"), trans(3, 1, 1, 7), trans(4, 2, 1, 7)},
		"a house":           house(),
		"40, up":            deep,
		"40, down":          down,
	} {
		want(t, what, c, 0, 0)
	}
}

func TestForm(t *testing.T) { // P11.1: of Form the number is 0
	many := make(api.Chart, 41)
	for i := range many {
		many[i] = api.Elem{ID: i + 1, Kind: api.Final}
	}
	want(t, "40 elements", many[:40], 0, 0)
	for what, c := range map[string]api.Chart{
		"41 elements":       many,
		"falling":           {state(2, 0, "a"), state(1, 0, "b")},
		"twice":             {state(2, 0, "a"), state(2, 0, "b")},
		"number 0":          {state(0, 0, "a")},
		"number -1":         {state(-1, 0, "a")},
		"number too great":  {state(1<<20+1, 0, "a")},
		"least number":      {state(math.MinInt, math.MinInt, "a")},
		"greatest number":   {state(math.MaxInt, math.MaxInt, "a")},
		"itself, too great": {state(1<<20+1, 1<<20+1, "a")},
		"parent -1":         {state(1, -1, "a")},
		"parent too great":  {state(1, 1<<20+1, "a")},
		"order -1":          {state(1, 0, "a"), trans(2, 1, 1, -1)},
		"order too great":   {state(1, 0, "a"), trans(2, 1, 1, 1<<20+1)},
		"from -1":           {trans(2, -1, 1, 0)},
		"to too great":      {trans(2, 1, 1<<20+1, 0)},
		"name too long":     {state(1, 0, twelve+"m")},
		"guard too long":    {{ID: 1, Kind: api.Trans, Guard: twelve + "m"}},
		"ahead of all":      {{ID: 3, Kind: 77, Parent: 3, From: 1}, {ID: 3, Kind: 78}},
	} {
		want(t, what, c, Form, 0)
	}
}

func TestKinds(t *testing.T) { // P11.1: kinds, and what is empty of which
	for kind := range 256 {
		e := api.Elem{ID: 7, Kind: byte(kind), Name: "a"}
		if kind >= 1 && kind <= 5 {
			continue
		}
		want(t, "a kind of none", api.Chart{e}, Kinds, 7)
		e.Name = ""
		want(t, "a kind of none", api.Chart{e}, Kinds, 7)
	}
	kinds := map[byte]string{ // the fields that each may have
		api.State:   "parent order name",
		api.Region:  "parent order name",
		api.History: "parent order",
		api.Final:   "parent order",
		api.Trans:   "order from to event guard action",
	}
	base := api.Chart{state(1, 0, "a"), state(2, 1, "b")}
	for kind, fields := range kinds {
		for field, set := range map[string]func(e *api.Elem){
			"parent": func(e *api.Elem) { e.Parent = 2 },
			"order":  func(e *api.Elem) { e.Order = 1 },
			"name":   func(e *api.Elem) { e.Name = "n" },
			"from":   func(e *api.Elem) { e.From = 1 },
			"to":     func(e *api.Elem) { e.To = 1 },
			"event":  func(e *api.Elem) { e.Event = "e" },
			"guard":  func(e *api.Elem) { e.Guard = "g" },
			"action": func(e *api.Elem) { e.Action = "x" },
		} {
			e := api.Elem{ID: 3, Kind: kind}
			switch kind {
			case api.State, api.Region:
				e.Parent, e.Name = 2, "c"
			case api.Trans:
				e.From, e.To = 1, 2
			}
			want(t, "as it should be", append(base[:2:2], e), 0, 0)
			set(&e)
			rule, id := Kinds, 3
			if strings.Contains(fields, field) {
				rule, id = 0, 0
			}
			want(t, field+" of kind "+string('0'+rune(kind)), append(base[:2:2], e), rule, id)
		}
	}
}

func TestNames(t *testing.T) { // P11.1: empty, or that of another one with its Parent
	for what, x := range map[string]struct {
		c  api.Chart
		id int
	}{
		"a state's is empty":      {api.Chart{state(4, 0, "")}, 4},
		"a region's is empty":     {api.Chart{state(4, 0, "a"), region(5, 4, "")}, 5},
		"two that are empty":      {api.Chart{state(4, 0, "a"), state(5, 0, ""), state(6, 0, "")}, 5},
		"two states at 0":         {api.Chart{state(4, 0, "a"), state(5, 0, "b"), state(6, 0, "a")}, 4},
		"two states in a state":   {api.Chart{state(4, 0, "a"), state(5, 4, "b"), state(6, 4, "b")}, 5},
		"two regions":             {api.Chart{state(4, 0, "a"), region(5, 4, "b"), region(6, 4, "b")}, 5},
		"a state and a region":    {api.Chart{state(4, 0, "a"), region(5, 4, "b"), state(6, 4, "b")}, 5},
		"a region and a state":    {api.Chart{state(4, 0, "a"), state(5, 4, "b"), region(6, 4, "b")}, 5},
		"in what isn't there":     {api.Chart{state(4, 9, "a"), state(5, 9, "a")}, 4},
		"in a ring":               {api.Chart{state(4, 4, "a"), state(5, 4, "a")}, 4},
		"far from one another":    {with(house(), state(900, 2, "a")), 4},
		"least of several":        {with(house(), state(2, 1, "right")), 2},
		"twelve bytes of a name":  {api.Chart{state(4, 0, twelve), state(5, 0, twelve)}, 4},
		"the second one is empty": {api.Chart{state(4, 0, "a"), state(5, 4, "")}, 5},
	} {
		want(t, what, x.c, Names, x.id)
	}
	// Others have no names, so they have none in common.
	want(t, "others", api.Chart{state(1, 0, "a"), final(2, 0), final(3, 0), history(4, 0), trans(5, 1, 1, 0), trans(6, 1, 1, 1)}, 0, 0)
}

func TestParents(t *testing.T) { // P11.1: a Region in a State alone, another one in nothing, a State, a Region
	base := func(e api.Elem) api.Chart {
		return api.Chart{state(1, 0, "a"), state(2, 0, "b"), region(3, 2, "r"), history(4, 0), final(5, 0), trans(6, 1, 2, 0), e}
	}
	for _, make := range []func(in int) api.Elem{
		func(in int) api.Elem { return state(9, in, "x") },
		func(in int) api.Elem { return region(9, in, "x") },
		func(in int) api.Elem { return history(9, in) },
		func(in int) api.Elem { return final(9, in) },
	} {
		for in := range 12 {
			e := make(in)
			rule, id := Parents, 9
			switch {
			case in == 1:
				rule, id = 0, 0
			case in == 2 && e.Kind == api.Region:
				rule, id = 0, 0
			case in == 2: // Parents is kept, and what stands in 2 is mixed
				rule, id = Mixed, 2
			case (in == 0 || in == 3) && e.Kind != api.Region:
				rule, id = 0, 0
			case in == 9 && e.Kind == api.State: // a state is a state's parent, be it its own
				rule, id = Rings, 9
			}
			want(t, "kind "+string('0'+rune(e.Kind))+" in "+string('0'+rune(in)), base(e), rule, id)
		}
	}
	want(t, "the least", api.Chart{state(1, 0, "a"), final(4, 7), state(8, 7, "a")}, Parents, 4)
	want(t, "ahead of itself", api.Chart{final(1, 9), state(8, 0, "a")}, Parents, 1)
}

func TestRings(t *testing.T) { // P11.1: who is come to again, not who stands in a ring
	for what, x := range map[string]struct {
		c  api.Chart
		id int
	}{
		"in itself":          {api.Chart{state(3, 3, "a")}, 3},
		"two":                {api.Chart{state(3, 5, "a"), state(5, 3, "b")}, 3},
		"three":              {api.Chart{state(3, 5, "a"), state(5, 7, "b"), state(7, 3, "c")}, 3},
		"behind a ring":      {api.Chart{state(1, 5, "a"), state(5, 7, "b"), state(7, 5, "c")}, 5},
		"behind one of one":  {api.Chart{state(1, 2, "a"), state(2, 5, "b"), state(5, 5, "c")}, 5},
		"far behind a ring":  {api.Chart{final(1, 2), state(2, 3, "a"), state(3, 4, "a"), state(4, 5, "a"), state(5, 4, "b")}, 4},
		"through a region":   {api.Chart{state(3, 5, "a"), region(5, 3, "b")}, 3},
		"two rings":          {api.Chart{state(2, 9, "a"), state(3, 8, "a"), state(8, 3, "a"), state(9, 2, "a")}, 2},
		"beside a way that":  {api.Chart{state(1, 0, "a"), state(2, 1, "a"), state(3, 4, "a"), state(4, 3, "a")}, 3},
		"of a state, at 1":   {api.Chart{state(1, 1, "a"), state(2, 1, "b"), region(3, 2, "c")}, 1},
		"of those in a ring": {api.Chart{state(4, 6, "a"), history(5, 4), state(6, 4, "b")}, 4},
	} {
		want(t, what, x.c, Rings, x.id)
	}
}

func TestLongRings(t *testing.T) { // P11.1: of all elements, and of all but those ahead of it
	for n := 1; n <= 40; n++ {
		for first := 1; first <= n; first++ {
			var up, down api.Chart
			for id := 1; id <= n; id++ {
				up = append(up, state(id, id+1, string('A'+rune(id))))
				down = append(down, state(id, id-1, string('A'+rune(id))))
			}
			want(t, "a way up that ends", up, Parents, n)
			want(t, "a way down", down, 0, 0)
			up[n-1].Parent = first
			want(t, "a way up, closed", up, Rings, first)
			down[0].Parent = first
			want(t, "a way down, closed", down, Rings, 1)
		}
	}
}

// ruleOf is a rule, if it is broken.
func ruleOf(broken bool, rule int) int {
	if broken {
		return rule
	}
	return 0
}

// idOf is a number, if a rule is broken.
func idOf(broken bool, id int) int {
	return ruleOf(broken, id)
}

func TestEnds(t *testing.T) { // P11.1: from a State, to a State, a History, a Final
	base := func(e api.Elem) api.Chart {
		return api.Chart{state(1, 0, "a"), region(2, 1, "r"), history(3, 2), final(4, 2), state(5, 2, "b"), e, trans(7, 5, 5, 0)}
	}
	from := map[int]bool{1: true, 5: true}
	to := map[int]bool{1: true, 3: true, 4: true, 5: true}
	for f := range 10 {
		for g := range 10 {
			broken := !from[f] || !to[g]
			want(t, "ends", base(trans(6, f, g, 1)), ruleOf(broken, Ends), idOf(broken, 6))
		}
	}
	want(t, "the least", api.Chart{trans(2, 0, 0, 0), trans(3, 0, 0, 0)}, Ends, 2)
	want(t, "the last numbers", api.Chart{trans(2, 1<<20, 1<<20, 1<<20)}, Ends, 2)
}

func TestOrders(t *testing.T) { // P11.1: one From and one Order
	a, b := state(1, 0, "a"), state(2, 0, "b")
	want(t, "one order", api.Chart{a, b, trans(3, 1, 1, 4), trans(4, 1, 2, 4)}, Orders, 3)
	want(t, "order 0", api.Chart{a, b, trans(3, 1, 1, 0), trans(4, 1, 2, 0)}, Orders, 3)
	want(t, "the last order", api.Chart{a, b, trans(3, 2, 1, 1<<20), trans(4, 2, 1, 1<<20)}, Orders, 3)
	want(t, "the least", api.Chart{a, b, trans(3, 1, 1, 0), trans(4, 2, 1, 9), trans(5, 1, 1, 1), trans(6, 2, 2, 9), trans(7, 1, 2, 1)}, Orders, 4)
	want(t, "three of one order", api.Chart{a, b, trans(3, 1, 1, 0), trans(4, 1, 2, 5), trans(5, 1, 2, 5), trans(6, 1, 2, 5)}, Orders, 4)
	want(t, "one event", api.Chart{a, b, {ID: 3, Kind: api.Trans, From: 1, To: 1, Event: "e"}, {ID: 4, Kind: api.Trans, From: 1, To: 1, Order: 1, Event: "e"}}, 0, 0)
	want(t, "another event", api.Chart{a, b, {ID: 3, Kind: api.Trans, From: 1, To: 1, Event: "e"}, {ID: 4, Kind: api.Trans, From: 1, To: 2, Event: "f"}}, Orders, 3)
	want(t, "another From", api.Chart{a, b, trans(3, 1, 1, 4), trans(4, 2, 1, 4)}, 0, 0)
}

func TestMixed(t *testing.T) { // P11.1: Regions and others in one
	a, r := state(3, 0, "a"), region(4, 3, "r")
	for what, e := range map[string]api.Elem{"a state": state(5, 3, "b"), "a history": history(5, 3), "a final": final(5, 3)} {
		want(t, what, api.Chart{a, r, e}, Mixed, 3)
		e.ID = 2
		want(t, what+" ahead", api.Chart{e, a, r}, Mixed, 3)
		want(t, what+" alone", api.Chart{e, a}, 0, 0)
		e.ID, e.Parent = 5, 4
		want(t, what+" in the region", api.Chart{a, r, e}, 0, 0)
	}
	want(t, "a region", api.Chart{a, r, region(5, 3, "q")}, 0, 0)
	want(t, "others at 0", api.Chart{a, r, state(5, 0, "b"), trans(6, 5, 3, 0)}, 0, 0)
	want(t, "the least", api.Chart{state(1, 9, "x"), state(2, 9, "b"), region(3, 2, "r"), final(4, 2), region(5, 1, "r"), final(6, 1), state(9, 0, "up")}, Mixed, 1)
	want(t, "deep", with(house(), final(16, 9), region(17, 9, "r")), Mixed, 9)
}

func TestOrderOfRules(t *testing.T) { // P11.1: the first rule, whichever element breaks it
	c := api.Chart{
		state(10, 0, "a"), region(11, 10, "r"), final(12, 10), // Mixed, at 10
		trans(20, 10, 12, 0), trans(21, 10, 12, 0), // Orders, at 20
		trans(30, 11, 12, 0),  // Ends, at 30
		state(40, 40, "ring"), // Rings, at 40
		final(50, 99),         // Parents, at 50
		state(60, 0, ""),      // Names, at 60
		{ID: 70, Kind: 9},     // Kinds, at 70
		{ID: 80, Kind: api.Final, To: -1},
	}
	for _, x := range []struct{ drop, rule, id int }{{80, Form, 0}, {70, Kinds, 70}, {60, Names, 60}, {50, Parents, 50}, {40, Rings, 40}, {30, Ends, 30}, {20, Orders, 20}, {10, Mixed, 10}} {
		want(t, "with it", c, x.rule, x.id)
		c = slices.DeleteFunc(c, func(e api.Elem) bool { return e.ID == x.drop })
	}
}

// broken tells by a plain model, of a chart that is Right, what breaks a rule.
func broken(c api.Chart, rule int) []int {
	at := map[int]api.Elem{}
	for _, e := range c {
		at[e.ID] = e
	}
	var ids []int
	for _, e := range c {
		bad := false
		switch rule {
		case 2:
			none := e
			none.ID, none.Order = 0, 0
			switch e.Kind {
			case 1, 2:
				none.Parent, none.Name = 0, ""
			case 3, 4:
				none.Parent = 0
			case 5:
				none.From, none.To, none.Event, none.Guard, none.Action = 0, 0, "", "", ""
			default:
				bad = true
			}
			bad = bad || none != api.Elem{Kind: e.Kind}
		case 3:
			for _, o := range c {
				bad = bad || (e.Kind == 1 || e.Kind == 2) && (o.Kind == 1 || o.Kind == 2) && o != e && [2]any{o.Parent, o.Name} == [2]any{e.Parent, e.Name}
			}
			bad = bad || e.Kind < 3 && e.Name == ""
		case 4:
			in := at[e.Parent].Kind
			bad = e.Kind == 2 && in != 1 || e.Parent != 0 && in != 1 && in != 2
		case 5:
			for up, n := e.Parent, 0; n < 100 && up != 0; up, n = at[up].Parent, n+1 {
				bad = bad || up == e.ID
			}
		case 6:
			to := at[e.To].Kind
			bad = e.Kind == 5 && (at[e.From].Kind != 1 || to == 0 || to == 2 || to == 5)
		case 7:
			for _, o := range c {
				bad = bad || e.Kind == 5 && o.Kind == 5 && o.ID != e.ID && o.From == e.From && o.Order == e.Order
			}
		case 8:
			var regions, others int
			for _, o := range c {
				if o.Parent != e.ID {
					continue
				}
				if o.Kind == 2 {
					regions++
				} else {
					others++
				}
			}
			bad = regions*others > 0
		}
		if bad {
			ids = append(ids, e.ID)
		}
	}
	return ids
}

// changed is a house of which a few fields are other ones.
func changed(r *rand.Rand) api.Chart {
	c := house()
	for range r.Intn(4) {
		e := &c[r.Intn(len(c))]
		switch r.Intn(12) {
		case 0:
			e.Kind = byte(r.Intn(7))
		case 1, 2, 3:
			e.Parent = r.Intn(len(c) + 2)
		case 4, 5:
			e.From = r.Intn(len(c) + 2)
		case 6, 7:
			e.To = r.Intn(len(c) + 2)
		case 8, 9:
			e.Order = r.Intn(2)
		case 10:
			e.Name = []string{"", "a", "on", "left"}[r.Intn(4)]
		case 11:
			e.Guard = "g"
		}
	}
	return c
}

// anyChart is a chart that is Right, and keeps most of the rules now and then.
func anyChart(r *rand.Rand) api.Chart {
	if r.Intn(2) == 0 {
		return changed(r)
	}
	n := r.Intn(9)
	if r.Intn(10) == 0 {
		n = r.Intn(41)
	}
	var c api.Chart
	number := func() int {
		if r.Intn(12) == 0 || n == 0 {
			return r.Intn(2 * (n + 1))
		}
		return 1 + r.Intn(n)
	}
	names := []string{"a", "b", "c", "d", "e", "f", ""}
	for id := 1; id <= n; id++ {
		if n > 2 && r.Intn(30) == 0 {
			continue
		}
		e := api.Elem{ID: id, Kind: []byte{1, 1, 1, 1, 2, 2, 3, 4, 5, 5}[r.Intn(10)], Order: r.Intn(3)}
		if e.Kind == api.Trans {
			e.From, e.To = number(), number()
		} else if r.Intn(3) > 0 {
			e.Parent = number()
		}
		if e.Kind == api.State || e.Kind == api.Region {
			e.Name = names[r.Intn(7)] + names[r.Intn(6)]
			if r.Intn(30) == 0 {
				e.Name = ""
			}
		}
		if r.Intn(60) == 0 {
			e.Kind = byte(r.Intn(7))
		}
		c = append(c, e)
	}
	return c
}

func TestManyCharts(t *testing.T) { // P1, P2, P11.1: beside a plain model
	r := rand.New(rand.NewSource(11))
	seen := map[int]int{}
	for range 100000 {
		c := anyChart(r)
		var f api.Fault
		for rule := 2; rule <= 8 && f.Rule == 0; rule++ {
			if ids := broken(c, rule); len(ids) > 0 {
				f = api.Fault{Rule: rule, ID: slices.Min(ids)}
			}
		}
		before := slices.Clone(c)
		if got := Check(c); got != f {
			t.Fatalf("%v: %v, not %v", c, got, f)
		}
		if !slices.Equal(c, before) {
			t.Fatal("the chart has changed")
		}
		seen[f.Rule]++
	}
	for _, rule := range []int{0, 2, 3, 4, 5, 6, 7, 8} {
		if seen[rule] < 100 {
			t.Errorf("rule %d came up %d times", rule, seen[rule])
		}
	}
}
