package tests

import (
	"math/rand"
	"slices"
	"strings"
	"testing"

	"loop.example/g01261/impl"
)

// tableArgs are arguments for the functions of chapter 6; each function takes some of them.
type tableArgs struct {
	f                     impl.Field
	c                     impl.Card
	list                  []impl.Field
	cards                 []impl.Card
	field, other          int64
	hole, second          int64
	part, whole           int64
	s, u                  impl.Share
	x                     impl.Mix
	lot                   [][]string
	words, asked          int64
	per, greatest, chance int64
	most                  int64
	tree                  []impl.Knot
	values                []int64
}

// goodTableArgs are arguments with which every function of chapter 6 returns OK.
func goodTableArgs() tableArgs {
	list := tableScheme()
	cards := cardsWith(list, []int64{1, 2, 3, 4, 0}, []int64{5, 2, -1, -2, -1}, []int64{1, 0, 3, 4, 0})
	return tableArgs{
		f: list[0], c: cards[0], list: list, cards: cards, field: 1, other: 4, hole: 3, second: 4, part: 4, whole: 6,
		s: impl.Share{P: 2, Q: 3}, u: impl.Share{P: 1, Q: 2}, x: impl.Mix{Start: 50, Size: 20, Per: 3}, lot: [][]string{{"ant", "bee"}, {}},
		words: 2, asked: 1, per: 1, greatest: 96, chance: 100000000, most: 1,
		tree: []impl.Knot{askOf(0, 1, 1, 5, 2), askOf(1, 0, 3, 2, 4), leafOf(1), leafOf(2), leafOf(0)}, values: []int64{5, 0},
	}
}

// tableCall is a function of chapter 6, and what it takes: f a field, c a card, l a scheme, k cards, n cards of which there must be some, p and q indices of fields, h and o holes, a a part of a whole, s and u shares, x a mix, t a lot, w words, d words that are asked for, z a Per, g the greatest Size, e a chance, b a Size that there must be, m the most cards of a leaf, r a tree, y one with cards, and v values.
type tableCall struct {
	name, takes string
	run         func(a tableArgs) []any
}

func callsOfCounts() []tableCall {
	return []tableCall{
		{"ValueIn", "fc", func(a tableArgs) []any { value, code := impl.ValueIn(a.f, a.c); return []any{value, code} }},
		{"TallyOf", "lkp", func(a tableArgs) []any {
			list, code := impl.TallyOf(a.list, a.cards, a.field)
			return []any{list, code}
		}},
		{"CrossOf", "lkpq", func(a tableArgs) []any {
			cells, code := impl.CrossOf(a.list, a.cards, a.field, a.other)
			return []any{cells, code}
		}},
		{"ShareOf", "a", func(a tableArgs) []any { share, code := impl.ShareOf(a.part, a.whole); return []any{share, code} }},
		{"CompareShares", "su", func(a tableArgs) []any { order, code := impl.CompareShares(a.s, a.u); return []any{order, code} }},
		{"CommonValue", "lkpn", func(a tableArgs) []any {
			value, share, code := impl.CommonValue(a.list, a.cards, a.field)
			return []any{value, share, code}
		}},
		{"SplitOf", "lkp", func(a tableArgs) []any { n, code := impl.SplitOf(a.list, a.cards, a.field); return []any{n, code} }},
		{"BestField", "lk", func(a tableArgs) []any {
			best, n, code := impl.BestField(a.list, a.cards)
			return []any{best, n, code}
		}},
		{"FollowsFrom", "lkpq", func(a tableArgs) []any {
			yes, code := impl.FollowsFrom(a.list, a.cards, a.field, a.other)
			return []any{yes, code}
		}},
		{"HoleTally", "k", func(a tableArgs) []any { counts, code := impl.HoleTally(a.cards); return []any{counts, code} }},
		{"IdleHoles", "k", func(a tableArgs) []any { m, code := impl.IdleHoles(a.cards); return []any{m, code} }},
		{"TogetherOf", "kho", func(a tableArgs) []any {
			n, code := impl.TogetherOf(a.cards, a.hole, a.second)
			return []any{n, code}
		}},
	}
}

func callsOfChances() []tableCall {
	return []tableCall{
		{"FalseChance", "xwd", func(a tableArgs) []any {
			chance, code := impl.FalseChance(a.x, a.words, a.asked)
			return []any{chance, code}
		}},
		{"ExpectedFalse", "xtd", func(a tableArgs) []any {
			sum, code := impl.ExpectedFalse(a.x, a.lot, a.asked)
			return []any{sum, code}
		}},
		{"BestSize", "zwdgeb", func(a tableArgs) []any {
			size, code := impl.BestSize(a.per, a.words, a.asked, a.greatest, a.chance)
			return []any{size, code}
		}},
	}
}

func callsOfTrees() []tableCall {
	return []tableCall{
		{"PlanTree", "lkm", func(a tableArgs) []any {
			tree, code := impl.PlanTree(a.list, a.cards, a.most)
			return []any{tree, code}
		}},
		{"WalkTree", "rv", func(a tableArgs) []any {
			cards, asked, code := impl.WalkTree(a.tree, a.values)
			return []any{cards, asked, code}
		}},
		{"CheckTree", "lkr", func(a tableArgs) []any {
			good, code := impl.CheckTree(a.list, a.cards, a.tree)
			return []any{good, code}
		}},
		{"DeepestOf", "r", func(a tableArgs) []any { n, code := impl.DeepestOf(a.tree); return []any{n, code} }},
		{"MeanAsked", "ry", func(a tableArgs) []any { mean, code := impl.MeanAsked(a.tree); return []any{mean, code} }},
	}
}

func tableCalls() []tableCall {
	return slices.Concat(callsOfCounts(), callsOfChances(), callsOfTrees())
}

// spoilTable is a way to spoil one argument, so that all functions fail with a code which take what has the letter.
type spoilTable struct {
	takes, argument string
	code            int64
	spoil           func(a *tableArgs)
}

// tableCodeFor tells the code of a function for some spoilt arguments.
func tableCodeFor(c tableCall, spoilt ...spoilTable) int64 {
	for _, code := range []int64{impl.ErrInvalid, impl.ErrRange, impl.ErrNotFound} {
		for _, x := range spoilt {
			if x.code == code && strings.Contains(c.takes, x.takes) {
				return code
			}
		}
	}
	return impl.OK
}

// wrongCardLists are lists with cards that are not valid, some of which are also too long.
func wrongCardLists(some []impl.Card) [][]impl.Card {
	long := slices.Repeat([]impl.Card{{Name: "ant"}}, 61)
	var lists [][]impl.Card
	for _, c := range some {
		lists = append(lists, []impl.Card{c}, append(slices.Clone(goodTableArgs().cards), c), append([]impl.Card{c}, long...), append(slices.Clone(long), c))
	}
	return lists
}

// invalidTableArgs spoil arguments so that they are not valid.
func invalidTableArgs(fields []impl.Field, cards []impl.Card, schemes [][]impl.Field, mixes []impl.Mix, trees [][]impl.Knot) []spoilTable {
	var all []spoilTable
	add := func(takes, argument string, spoil func(a *tableArgs)) {
		all = append(all, spoilTable{takes, argument, impl.ErrInvalid, spoil})
	}
	for _, f := range fields {
		add("f", "field", func(a *tableArgs) { a.f = f })
	}
	for _, c := range cards {
		add("c", "card", func(a *tableArgs) { a.c = c })
	}
	for _, list := range wrongCardLists(cards) {
		add("k", "cards", func(a *tableArgs) { a.cards = list })
	}
	for _, list := range schemes {
		add("l", "scheme", func(a *tableArgs) { a.list = list })
	}
	for _, x := range mixes {
		add("x", "mix", func(a *tableArgs) { a.x = x })
	}
	for _, tree := range trees {
		add("r", "tree", func(a *tableArgs) { a.tree = tree })
	}
	for _, s := range wrongShares() {
		add("s", "s", func(a *tableArgs) { a.s = s })
		add("u", "u", func(a *tableArgs) { a.u = s })
	}
	return all
}

// beyond has numbers that are not between two bounds.
func beyond(least, most int64) []int64 {
	return []int64{least - 1, least - 2, most + 1, most + 2, most + 1<<16, most + 1<<32, -1 << 63, 1<<63 - 1}
}

// otherTableArgs spoil arguments so that a function returns another code.
func otherTableArgs(lots [][][]string) []spoilTable {
	var all []spoilTable
	add := func(takes, argument string, code int64, spoil func(a *tableArgs)) {
		all = append(all, spoilTable{takes, argument, code, spoil})
	}
	for _, n := range []int{61, 62, 5000} {
		add("k", "cards", impl.ErrRange, func(a *tableArgs) { a.cards = slices.Repeat(a.cards[:1], n) })
	}
	for _, at := range beyond(0, 4) {
		add("p", "index", impl.ErrRange, func(a *tableArgs) { a.field = at })
		add("q", "other index", impl.ErrRange, func(a *tableArgs) { a.other = at })
	}
	for _, at := range noHoles() {
		add("h", "hole", impl.ErrRange, func(a *tableArgs) { a.hole = at })
		add("o", "other hole", impl.ErrRange, func(a *tableArgs) { a.second = at })
	}
	for _, n := range beyond(0, 6) {
		add("a", "part", impl.ErrRange, func(a *tableArgs) { a.part = n })
	}
	for _, n := range append(beyond(1, impl.Billion), 3) {
		add("a", "whole", impl.ErrRange, func(a *tableArgs) { a.whole = n })
	}
	for _, lot := range lots {
		add("t", "lot", impl.ErrRange, func(a *tableArgs) { a.lot = lot })
	}
	for _, x := range []struct {
		takes, argument string
		least, most     int64
		put             func(a *tableArgs, n int64)
	}{
		{"w", "words", 0, 100, func(a *tableArgs, n int64) { a.words = n }},
		{"d", "asked", 0, 12, func(a *tableArgs, n int64) { a.asked = n }},
		{"z", "per", 1, impl.MaxPer, func(a *tableArgs, n int64) { a.per = n }},
		{"g", "greatest", 4, impl.Holes, func(a *tableArgs, n int64) { a.greatest = n }},
		{"e", "chance", 0, impl.Billion, func(a *tableArgs, n int64) { a.chance = n }},
		{"m", "most", 1, impl.MaxTable, func(a *tableArgs, n int64) { a.most = n }},
	} {
		for _, n := range beyond(x.least, x.most) {
			add(x.takes, x.argument, impl.ErrRange, func(a *tableArgs) { x.put(a, n) })
		}
	}
	add("n", "cards", impl.ErrNotFound, func(a *tableArgs) { a.cards = nil })
	add("n", "cards", impl.ErrNotFound, func(a *tableArgs) { a.cards = []impl.Card{} })
	add("b", "chance", impl.ErrNotFound, func(a *tableArgs) { a.chance = 0 })
	return all
}

// Each thing that is wrong is told of each function that takes it, and of no other one.
func TestErrorsOfChapter6(t *testing.T) {
	spoilt := append(invalidTableArgs(wrongFields(), wrongCards(), wrongSchemes(), wrongMixes(), wrongTrees()), otherTableArgs(wrongLots())...)
	for _, c := range tableCalls() {
		checkCode(t, c.name, c.run(goodTableArgs()), impl.OK)
		for _, x := range spoilt {
			a := goodTableArgs()
			x.spoil(&a)
			checkCode(t, c.name+" "+x.argument, c.run(a), tableCodeFor(c, x))
		}
	}
}

// Of two things that are wrong, and that a function takes, the one is told that comes first in the document.
func TestOrderOfErrorsInChapter6(t *testing.T) {
	spoilt := invalidTableArgs([]impl.Field{{}}, []impl.Card{{}, {Name: "ant", Notches: maskOf(96)}}, wrongSchemes()[:6], []impl.Mix{{}, {Size: 4, Per: 3}}, wrongTrees()[:12])
	spoilt = append(spoilt, otherTableArgs([][][]string{{{""}}, make([][]string, 61), {manyWords(13)}})...)
	for _, c := range tableCalls() {
		for _, x := range spoilt {
			for _, y := range spoilt {
				if x.argument == y.argument || !strings.Contains(c.takes, x.takes) || !strings.Contains(c.takes, y.takes) {
					continue
				}
				a := goodTableArgs()
				x.spoil(&a)
				y.spoil(&a)
				checkCode(t, c.name+" "+x.argument+" and "+y.argument, c.run(a), tableCodeFor(c, x, y))
			}
		}
	}
}

// Without fields no index is one, there is no best field, and all that is wrong with the cards comes first.
func TestSchemesWithoutFields(t *testing.T) {
	good := goodTableArgs().cards
	for _, list := range [][]impl.Field{nil, {}} {
		for _, x := range []struct {
			cards          []impl.Card
			indexed, found int64
		}{
			{nil, impl.ErrRange, impl.ErrNotFound},
			{good, impl.ErrRange, impl.ErrNotFound},
			{slices.Repeat(good, 20), impl.ErrRange, impl.ErrNotFound},
			{slices.Repeat(good, 21), impl.ErrRange, impl.ErrRange},
			{[]impl.Card{{}}, impl.ErrInvalid, impl.ErrInvalid},
			{slices.Repeat([]impl.Card{{}}, 61), impl.ErrInvalid, impl.ErrInvalid},
		} {
			for _, at := range hardNumbers() {
				a := tableArgs{list: list, cards: x.cards, field: at, other: at}
				for _, c := range callsOfCounts() {
					if strings.Contains(c.takes, "p") {
						checkCode(t, c.name, c.run(a), x.indexed)
					}
				}
			}
			best, split, code := impl.BestField(list, x.cards)
			checkCode(t, "BestField", []any{best, split, code}, x.found)
		}
	}
}

// Where nothing is found, what is out of range comes first all the same.
func TestRangeComesFirstInChapter6(t *testing.T) {
	list := goodTableArgs().list
	for _, at := range beyond(0, 4) {
		value, share, code := impl.CommonValue(list, nil, at)
		checkCode(t, "CommonValue", []any{value, share, code}, impl.ErrRange)
	}
	for _, asked := range beyond(0, 12) {
		for _, lot := range [][][]string{nil, {{}}, {{""}}, make([][]string, 61)} {
			sum, code := impl.ExpectedFalse(impl.Mix{Size: 10, Per: 1}, lot, asked)
			checkCode(t, "ExpectedFalse", []any{sum, code}, impl.ErrRange)
		}
		size, code := impl.BestSize(8, 1, asked, 4, 0)
		checkCode(t, "BestSize", []any{size, code}, impl.ErrRange)
	}
	size, code := impl.BestSize(8, 1, 1, 4, 0)
	checkCode(t, "BestSize", []any{size, code}, impl.ErrNotFound)
	for _, most := range beyond(1, impl.MaxTable) {
		tree, code := impl.PlanTree(nil, nil, most)
		checkCode(t, "PlanTree", []any{tree, code}, impl.ErrRange)
	}
}

// A tree that is checked with cards that are wrong has these errors, whether it leads them to their leaves or not.
func TestErrorsOfCheckedTrees(t *testing.T) {
	a := goodTableArgs()
	long := slices.Repeat(a.cards, 21)
	for _, tree := range [][]impl.Knot{{leafOf()}, {leafOf(0, 1, 2)}, a.tree, {askOf(11, 0, 1), leafOf()}} {
		for _, x := range []struct {
			list  []impl.Field
			cards []impl.Card
			code  int64
		}{
			{a.list, long, impl.ErrRange},
			{nil, long, impl.ErrRange},
			{[]impl.Field{{}}, long, impl.ErrInvalid},
			{a.list, append(slices.Clone(long), impl.Card{}), impl.ErrInvalid},
			{a.list, []impl.Card{{}}, impl.ErrInvalid},
		} {
			good, code := impl.CheckTree(x.list, x.cards, tree)
			checkCode(t, label("CheckTree", tree), []any{good, code}, x.code)
			good, code = impl.CheckTree(x.list, x.cards, append(slices.Clone(tree), leafOf()))
			checkCode(t, label("CheckTree", tree), []any{good, code}, impl.ErrInvalid)
		}
	}
}

// All limits may be reached: MaxTable cards, MaxFields fields, the greatest numbers of words, lists and chances, MaxKnots knots.
func TestLimitsOfChapter6(t *testing.T) {
	r := rand.New(rand.NewSource(230))
	a := goodTableArgs()
	a.list = manyFields()
	a.cards = tableCards(r, a.list, impl.MaxTable, 8)
	a.field, a.other, a.hole, a.second = 11, 0, 95, 0
	a.part, a.whole, a.s, a.u = impl.Billion, impl.Billion, impl.Share{P: 1, Q: 1}, impl.Share{P: 1, Q: impl.Billion}
	a.lot = slices.Repeat([][]string{manyWords(impl.MaxWords)}, impl.MaxLot)
	a.x = impl.Mix{Size: impl.Holes, Per: impl.MaxPer}
	a.words, a.asked, a.per, a.greatest, a.chance = 100, 12, impl.MaxPer, impl.Holes, impl.Billion
	a.tree, a.values = chainTree(impl.MaxKnots), make([]int64, 12)
	for _, most := range []int64{1, impl.MaxTable - 1, impl.MaxTable} {
		a.most = most
		for _, c := range tableCalls() {
			if c.name == "WalkTree" {
				checkCode(t, c.name, c.run(a), impl.ErrNotFound) // the values of the tree are not all 0
				continue
			}
			checkCode(t, c.name, c.run(a), impl.OK)
		}
	}
	a.words, a.asked, a.greatest, a.chance, a.part, a.whole, a.per = 0, 0, 4, impl.Billion, 0, 1, 1
	for _, c := range tableCalls() {
		if c.name != "WalkTree" {
			checkCode(t, c.name, c.run(a), impl.OK)
		}
	}
}
