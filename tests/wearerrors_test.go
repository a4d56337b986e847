package tests

import (
	"slices"
	"strings"
	"testing"

	"loop.example/g01261/impl"
)

// wearArgs are arguments for the functions of chapter 4; each function takes some of them.
type wearArgs struct {
	c                              impl.Card
	v, w                           impl.Wear
	m, n                           impl.Mask
	f                              impl.Field
	list                           []impl.Field
	cards, copies                  []impl.Card
	masks                          []impl.Mask
	seed                           uint32
	torn, filled, value, far, hole int64
}

// goodWearArgs are arguments with which every function of chapter 4 returns OK.
func goodWearArgs() wearArgs {
	f := impl.Field{Name: "kind", Kind: impl.KdPairs, Start: 20, Size: 2}
	return wearArgs{
		c: impl.Card{Name: "ant", Notches: maskOf(5, 9, 20, 21, 25, 26)},
		v: impl.Wear{Torn: maskOf(3), Filled: maskOf(5)}, w: impl.Wear{Torn: maskOf(22)},
		m: maskOf(20, 21, 25, 26), n: maskOf(20, 70), f: f,
		list:   []impl.Field{f, {Name: "year", Kind: impl.KdBinary, Start: 40, Size: 4}},
		cards:  notchedCards(maskOf(20), maskOf(21, 40, 41)),
		copies: notchedCards(maskOf(20, 21, 25, 26), maskOf(50)),
		masks:  []impl.Mask{maskOf(20, 21), maskOf(20), maskOf(70)},
		seed:   7, torn: 100, filled: 900, value: 41, far: 1, hole: 20,
	}
}

// wearCall is a function of chapter 4, and what it takes: c a card, v and w wear, m and n masks, f a field, l a scheme, d cards, k copies, s masks that are compared, a value (a), far (r), a hole (h), and the chances torn (t) and filled (u).
type wearCall struct {
	name, takes string
	run         func(a wearArgs) []any
}

func wearCalls() []wearCall {
	return []wearCall{
		{"WearCard", "cw", func(a wearArgs) []any { c, code := impl.WearCard(a.c, a.w); return []any{c, code} }},
		{"WearBetween", "mn", func(a wearArgs) []any { w, code := impl.WearBetween(a.m, a.n); return []any{w, code} }},
		{"UndoWear", "w", func(a wearArgs) []any { w, code := impl.UndoWear(a.w); return []any{w, code} }},
		{"AfterWear", "vw", func(a wearArgs) []any { w, code := impl.AfterWear(a.v, a.w); return []any{w, code} }},
		{"CountWear", "w", func(a wearArgs) []any { n, code := impl.CountWear(a.w); return []any{n, code} }},
		{"ChanceWear", "ctu", func(a wearArgs) []any {
			c, w, seed, code := impl.ChanceWear(a.c, a.seed, a.torn, a.filled)
			return []any{c, w, seed, code}
		}},
		{"LeastDistance", "f", func(a wearArgs) []any { n, code := impl.LeastDistance(a.f); return []any{n, code} }},
		{"IsTold", "faw", func(a wearArgs) []any { told, code := impl.IsTold(a.f, a.value, a.w); return []any{told, code} }},
		{"ValuesNear", "fmr", func(a wearArgs) []any { near, code := impl.ValuesNear(a.f, a.m, a.far); return []any{near, code} }},
		{"NearestValue", "fm", func(a wearArgs) []any {
			value, far, code := impl.NearestValue(a.f, a.m)
			return []any{value, far, code}
		}},
		{"DoubtsOf", "ld", func(a wearArgs) []any { doubts, code := impl.DoubtsOf(a.list, a.cards); return []any{doubts, code} }},
		{"VotesFor", "sh", func(a wearArgs) []any { n, code := impl.VotesFor(a.masks, a.hole); return []any{n, code} }},
		{"MajorityOf", "s", func(a wearArgs) []any { m, code := impl.MajorityOf(a.masks); return []any{m, code} }},
		{"LonelyHoles", "s", func(a wearArgs) []any { m, code := impl.LonelyHoles(a.masks); return []any{m, code} }},
		{"RepairField", "fms", func(a wearArgs) []any {
			m, how, code := impl.RepairField(a.f, a.m, a.masks)
			return []any{m, how, code}
		}},
		{"RepairCard", "lck", func(a wearArgs) []any {
			c, hows, code := impl.RepairCard(a.list, a.c, a.copies)
			return []any{c, hows, code}
		}},
	}
}

// spoilWear is a way to spoil arguments, so that all functions fail which take what has the letter.
type spoilWear struct {
	takes string
	spoil func(a *wearArgs)
}

// invalidWearArgs spoil arguments so that a function returns ErrInvalid.
func invalidWearArgs() []spoilWear {
	var list []spoilWear
	add := func(takes string, spoil func(a *wearArgs)) { list = append(list, spoilWear{takes, spoil}) }
	for _, w := range wrongWears() {
		add("v", func(a *wearArgs) { a.v = w })
		add("w", func(a *wearArgs) { a.w = w })
	}
	for _, m := range invalidMasks() {
		add("m", func(a *wearArgs) { a.m = m })
		add("n", func(a *wearArgs) { a.n = m })
		add("s", func(a *wearArgs) { a.masks = append(slices.Clone(a.masks), m) })
		add("s", func(a *wearArgs) { a.masks = append([]impl.Mask{m}, a.masks...) })
	}
	for _, f := range wrongFields() {
		add("f", func(a *wearArgs) { a.f = f })
	}
	for _, s := range wrongSchemes() {
		add("l", func(a *wearArgs) { a.list = s })
	}
	for _, c := range wrongCards() {
		add("c", func(a *wearArgs) { a.c = c })
		add("d", func(a *wearArgs) { a.cards = append(slices.Clone(a.cards), c) })
		add("d", func(a *wearArgs) { a.cards = append([]impl.Card{c}, a.cards...) })
		add("k", func(a *wearArgs) { a.copies = append(slices.Clone(a.copies), c) })
		add("k", func(a *wearArgs) { a.copies = append([]impl.Card{c}, a.copies...) })
	}
	return list
}

// wideWearArgs spoil arguments so that a function returns ErrRange.
func wideWearArgs() []spoilWear {
	var list []spoilWear
	add := func(takes string, spoil func(a *wearArgs)) { list = append(list, spoilWear{takes, spoil}) }
	for _, n := range []int{impl.MaxCopies + 1, impl.MaxCopies + 2, 5000} {
		add("s", func(a *wearArgs) { a.masks = slices.Repeat([]impl.Mask{a.m}, n) })
		add("k", func(a *wearArgs) { a.copies = slices.Repeat([]impl.Card{a.c}, n) })
	}
	for _, n := range []int{impl.MaxWorn + 1, impl.MaxWorn + 2, 5000} {
		add("d", func(a *wearArgs) { a.cards = slices.Repeat([]impl.Card{a.c}, n) })
	}
	for _, value := range []int64{-1, 100, 101, 1 << 40, -1 << 63, 1<<63 - 1} {
		add("a", func(a *wearArgs) { a.value = value })
	}
	for _, far := range wrongFars() {
		add("r", func(a *wearArgs) { a.far = far })
	}
	for _, hole := range noHoles() {
		add("h", func(a *wearArgs) { a.hole = hole })
	}
	for _, chance := range wrongChances() {
		add("t", func(a *wearArgs) { a.torn = chance })
		add("u", func(a *wearArgs) { a.filled = chance })
	}
	return list
}

// Each thing that is wrong is told of each function that takes it, and of no other one.
func TestErrorsOfChapter4(t *testing.T) {
	for _, c := range wearCalls() {
		checkCode(t, c.name, c.run(goodWearArgs()), impl.OK)
		for _, x := range wideWearArgs() {
			a := goodWearArgs()
			x.spoil(&a)
			code := int64(impl.OK)
			if strings.Contains(c.takes, x.takes) {
				code = impl.ErrRange
			}
			checkCode(t, c.name+" out of range "+x.takes, c.run(a), code)
		}
		for _, x := range invalidWearArgs() {
			a := goodWearArgs()
			x.spoil(&a)
			code := int64(impl.OK)
			if strings.Contains(c.takes, x.takes) {
				code = impl.ErrInvalid
			}
			checkCode(t, c.name+" invalid "+x.takes, c.run(a), code)
		}
	}
}

// What is invalid comes before all that is out of range, wherever it is.
func TestInvalidComesFirstInChapter4(t *testing.T) {
	outside := wideWearArgs()
	for _, c := range wearCalls() {
		for _, x := range invalidWearArgs() {
			if !strings.Contains(c.takes, x.takes) {
				continue
			}
			for _, wide := range outside {
				a := goodWearArgs()
				wide.spoil(&a)
				x.spoil(&a)
				if strings.Contains(c.takes, wide.takes) {
					checkCode(t, c.name+" "+x.takes+" and "+wide.takes, c.run(a), impl.ErrInvalid)
				}
			}
		}
	}
}

// What is out of range comes before what is not found, and before what is in a state for which there is no answer.
func TestRangeComesFirstInChapter4(t *testing.T) {
	pairs := impl.Field{Name: "p", Kind: impl.KdPairs, Start: 0, Size: 1}
	wrong := maskOf(0)
	m, how, code := impl.RepairField(pairs, wrong, make([]impl.Mask, impl.MaxCopies))
	checkCode(t, "RepairField of many", []any{m, how, code}, impl.ErrState)
	m, how, code = impl.RepairField(pairs, wrong, make([]impl.Mask, impl.MaxCopies+1))
	checkCode(t, "RepairField of too many", []any{m, how, code}, impl.ErrRange)
	for _, hole := range noHoles() {
		n, code := impl.VotesFor(nil, hole)
		checkCode(t, "VotesFor", []any{n, code}, impl.ErrRange)
	}
	n, code := impl.VotesFor(nil, 95)
	same(t, "VotesFor no masks", []int64{n, code}, []int64{0, impl.OK})
	for _, far := range wrongFars() {
		near, code := impl.ValuesNear(pairs, impl.Mask{}, far)
		checkCode(t, "ValuesNear", []any{near, code}, impl.ErrRange)
	}
	for _, m := range invalidMasks() {
		for _, masks := range [][]impl.Mask{{m}, {m, {}}, {{}, m}} {
			got, code := impl.MajorityOf(masks)
			checkCode(t, "MajorityOf", []any{got, code}, impl.ErrInvalid)
			got, code = impl.LonelyHoles(masks)
			checkCode(t, "LonelyHoles", []any{got, code}, impl.ErrInvalid)
		}
		value, far, code := impl.NearestValue(pairs, m)
		checkCode(t, "NearestValue", []any{value, far, code}, impl.ErrInvalid)
	}
}

// All limits may be reached: MaxCopies masks and copies, MaxWorn cards, MaxFar, and the chances 0 and 1000.
func TestLimitsOfChapter4(t *testing.T) {
	a := goodWearArgs()
	a.masks = slices.Repeat([]impl.Mask{a.m}, impl.MaxCopies)
	a.copies = slices.Repeat([]impl.Card{a.c}, impl.MaxCopies)
	a.cards = slices.Repeat([]impl.Card{a.c}, impl.MaxWorn)
	for _, x := range [][5]int64{{0, 0, 0, 0, 0}, {1000, 1000, impl.MaxFar, 99, 95}, {0, 1000, 1, 0, 64}, {1000, 0, 1, 99, 63}} {
		a.torn, a.filled, a.far, a.value, a.hole = x[0], x[1], x[2], x[3], x[4]
		for _, c := range wearCalls() {
			checkCode(t, c.name, c.run(a), impl.OK)
		}
	}
}

// Values at the limits of fields of each kind and Size.
func TestValuesThatAreToldAtTheLimits(t *testing.T) {
	for _, f := range allForms() {
		most := valuesOf(f.Kind, int64(f.Size)) - 1
		for _, value := range []int64{0, most} {
			told, code := impl.IsTold(f, value, impl.Wear{})
			same(t, label("IsTold", f, value), []any{told, code}, []any{true, int64(impl.OK)})
		}
		for _, value := range []int64{-1, most + 1, -1 << 63, 1<<63 - 1} {
			told, code := impl.IsTold(f, value, impl.Wear{})
			checkCode(t, label("IsTold", f, value), []any{told, code}, impl.ErrRange)
			told, code = impl.IsTold(f, value, impl.Wear{Torn: maskOf(1), Filled: maskOf(1)})
			checkCode(t, label("IsTold", f, value), []any{told, code}, impl.ErrInvalid)
		}
	}
}
