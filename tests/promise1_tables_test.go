package tests

import (
	"math/rand"
	"slices"
	"strings"
	"testing"

	"loop.example/g01261/impl"
)

// hardTrees are what a function of chapter 6 has to return for, valid or not.
func hardTrees() [][]impl.Knot {
	list := append(wrongTrees(), goodTrees()[:24]...)
	numbers := make([]int64, 300000)
	nexts := make([]int16, 300000)
	rising := make([]int64, 300000)
	for i := range numbers {
		nexts[i], rising[i] = int16(i), int64(i)
	}
	return append(list,
		make([]impl.Knot, 300000), slices.Repeat([]impl.Knot{leafOf(0)}, 300000),
		[]impl.Knot{leafOf(numbers...)}, []impl.Knot{leafOf(rising...)},
		[]impl.Knot{{Field: 3, Values: rising, Next: nexts}}, []impl.Knot{{Field: 3, Values: numbers, Next: make([]int16, 300000)}, leafOf()},
		[]impl.Knot{{Field: 3, Values: rising, Next: nexts, Cards: rising}}, []impl.Knot{{Field: 3, Values: rising, Next: slices.Repeat([]int16{1}, 300000)}, leafOf()})
}

func hardTreeTexts() []string {
	return append(hardTexts(), "leaf\n", "ask 0 1 1\nleaf 3\n", strings.Repeat("leaf\n", 200000), strings.Repeat("ask 0 1 1\n", 100000), "leaf"+strings.Repeat(" 1", 500000)+"\n", "ask"+strings.Repeat(" 1", 500000)+"\n", "ask 0"+strings.Repeat(" 1", 500000)+"\n", "leaf "+strings.Repeat("9", 1000000)+"\n", "leaf"+strings.Repeat(" ", 1000000)+"\n", strings.Repeat("\n", 1000000), treeTextIn(chainTree(120)), treeTextIn(starTree(120)), treeTextIn(starTree(3000)))
}

// tableCallsWith calls each function that takes one of some letters, with arguments one of which is changed.
func tableCallsWith(takes string, change func(a *tableArgs)) []call {
	var list []call
	for _, c := range tableCalls() {
		if strings.ContainsAny(c.takes, takes) {
			list = append(list, call{c.name, func() []any { a := goodTableArgs(); change(&a); return c.run(a) }})
		}
	}
	return list
}

// callsOfTables gives every function what is hard about one of its arguments, beside what is good.
func callsOfTables() []call {
	var list []call
	add := func(takes string, change func(a *tableArgs)) { list = append(list, tableCallsWith(takes, change)...) }
	for _, f := range hardFields() {
		for _, c := range hardCards() {
			add("f", func(a *tableArgs) { a.f, a.c = f, c })
		}
	}
	for _, s := range append(append(wrongSchemes(), goodSchemes()...), make([]impl.Field, 300000)) {
		add("l", func(a *tableArgs) { a.list = s })
		add("l", func(a *tableArgs) { a.list, a.field, a.other, a.cards = s, 0, 0, hardCards()[len(hardCards())-2:] })
	}
	for _, cards := range hardCardLists() {
		add("k", func(a *tableArgs) { a.cards = cards })
	}
	for _, n := range append(hardNumbers(), 2, 3, 4, 5, 6, 12, 13, 60, 61, 100, 101, impl.Billion, impl.Billion+1) {
		add("pho", func(a *tableArgs) { a.field, a.hole, a.second = n, n, n })
		add("q", func(a *tableArgs) { a.other = n })
		add("a", func(a *tableArgs) { a.part = n })
		add("a", func(a *tableArgs) { a.whole = n })
		add("a", func(a *tableArgs) { a.part, a.whole = n, n })
		add("s", func(a *tableArgs) { a.s = impl.Share{P: n, Q: 1} })
		add("s", func(a *tableArgs) { a.s, a.u = impl.Share{P: 1, Q: n}, impl.Share{P: n, Q: n} })
		add("wz", func(a *tableArgs) { a.words, a.most = n, n })
		add("dm", func(a *tableArgs) { a.asked, a.most = n, n })
		add("z", func(a *tableArgs) { a.per = n })
		add("g", func(a *tableArgs) { a.greatest = n })
		add("e", func(a *tableArgs) { a.chance = n })
		add("z", func(a *tableArgs) { a.per, a.words, a.asked, a.greatest, a.chance = n, n, n, n, n })
		add("v", func(a *tableArgs) { a.values = []int64{n, n, n} })
	}
	return list
}

// callsOfHardTrees gives every function hard mixes, lots, trees and texts.
func callsOfHardTrees() []call {
	var list []call
	add := func(takes string, change func(a *tableArgs)) { list = append(list, tableCallsWith(takes, change)...) }
	for _, x := range hardMixes() {
		add("x", func(a *tableArgs) { a.x = x })
		add("x", func(a *tableArgs) { a.x, a.words, a.asked = x, 100, 12 })
	}
	for _, lot := range hardLots() {
		add("t", func(a *tableArgs) { a.lot = lot })
	}
	trees := hardTrees()
	for i, tree := range trees {
		other := trees[max(i-1, 0)]
		for _, values := range [][]int64{nil, {5, 0}, make([]int64, 12), make([]int64, 500000)} {
			add("r", func(a *tableArgs) { a.tree, a.values = tree, values })
		}
		list = append(list, call{"ValidTree", func() []any { return []any{impl.ValidTree(tree)} }}, call{"TreeText", func() []any { return []any{impl.TreeText(tree)} }})
		list = append(list, call{"SameTree", func() []any {
			return []any{impl.SameTree(tree, other), impl.SameTree(tree, tree), impl.SameTree(nil, tree)}
		}})
	}
	for _, text := range hardTreeTexts() {
		list = append(list, call{"ReadTree", func() []any { tree, code := impl.ReadTree(text); return []any{tree, code} }})
	}
	return list
}

// spareTree returns a tree with the same knots, each with further things in the unused capacity of its lists, and the whole of it.
func spareTree(tree []impl.Knot) ([]impl.Knot, []impl.Knot) {
	var knots []impl.Knot
	for _, k := range tree {
		k.Values, _ = spare(k.Values, 7, 8)
		k.Next, _ = spare(k.Next, 9)
		k.Cards, _ = spare(k.Cards, 10, 11)
		knots = append(knots, k)
	}
	return spare(knots, leafOf(3), askOf(1, 2, 3))
}

// checkSpared checks that a tree is as spareTree has made it.
func checkSpared(t *testing.T, whole, tree []impl.Knot) {
	t.Helper()
	_, want := spareTree(tree)
	sameTrees(t, whole, want, "tree")
	for i, k := range tree {
		got := whole[i]
		same(t, "values", got.Values[:len(k.Values)+2], append(slices.Clone(k.Values), 7, 8))
		same(t, "nexts", got.Next[:len(k.Next)+1], append(slices.Clone(k.Next), 9))
		same(t, "cards", got.Cards[:len(k.Cards)+2], append(slices.Clone(k.Cards), 10, 11))
	}
}

// The functions of chapter 6 leave their arguments, and what is behind them in the same memory, as they are.
func TestPromise1ArgumentsOfChapter6Stay(t *testing.T) {
	r := rand.New(rand.NewSource(240))
	behind := impl.Card{Name: "behind", Notches: maskOf(1)}
	extra := impl.Field{Name: "extra", Kind: impl.KdSum, Start: 70, Size: 3}
	trees := append(wrongTrees()[:len(wrongTrees())-5], goodTrees()...)
	for i, tree := range trees {
		a := goodTableArgs()
		n := []int{0, 1, 2, 30, 60, 61}[i%6]
		schemes := [][]impl.Field{tableScheme(), someScheme(), manyFields(), nil, wrongSchemes()[1]}
		given := schemes[i%5]
		some := tableCards(r, tableScheme(), n, 3)
		words := randomLot(r, i%12, 3)
		values := []int64{r.Int63n(4) - 2, r.Int63n(4) - 2, 0, 1}
		list, fields := spare(given, extra)
		cards, all := spare(some, behind, behind)
		lot, lists := spareLot(words)
		told, numbers := spare(values, 5, 6)
		knots, whole := spareTree(tree)
		a.list, a.cards, a.lot, a.values, a.tree, a.field, a.other = list, cards, lot, told, knots, 0, 0
		for _, c := range tableCalls() {
			c.run(a)
		}
		impl.ValidTree(knots)
		impl.SameTree(knots, knots)
		impl.TreeText(knots)
		same(t, "scheme", fields, append(slices.Clone(given), extra))
		same(t, "cards", all, append(slices.Clone(some), behind, behind))
		same(t, "values", numbers, append(slices.Clone(values), 5, 6))
		for k, list := range lists[:len(words)] {
			same(t, "words", list[:len(list)+1], append(slices.Clone(words[k]), "behind"))
		}
		checkSpared(t, whole, tree)
	}
}

// wipeTree writes into all lists of a tree, and into their unused capacity.
func wipeTree(tree []impl.Knot) {
	for _, k := range tree {
		fill(k.Values, -5)
		fill(k.Next, -5)
		fill(k.Cards, -5)
	}
	fill(tree, leafOf(59))
}

// What is written into a result is seen neither in an argument nor in another result.
func TestPromise1ResultsOfChapter6AreNew(t *testing.T) {
	a := goodTableArgs()
	check := func(name string, run func() []any) {
		want := label(run()...) // as a text, which nothing can change
		for range 2 {
			for _, x := range run() {
				switch list := x.(type) {
				case []int64:
					fill(list, -5)
				case []impl.Tally:
					fill(list, impl.Tally{Value: -5, Count: -5})
				case []impl.Cell:
					fill(list, impl.Cell{A: -5})
				case []impl.Knot:
					wipeTree(list)
				}
			}
			same(t, name, label(run()...), want)
		}
	}
	for _, c := range tableCalls() {
		check(c.name, func() []any { return c.run(a) })
	}
	check("ReadTree", func() []any { tree, code := impl.ReadTree(treeTextIn(a.tree)); return []any{tree, code} })
	same(t, "arguments", label(a), label(goodTableArgs()))
}

// No list of a tree shares memory with another one of it: what is written into one, or behind it, is seen in no other one.
func TestPromise1ListsOfTreesAreApart(t *testing.T) {
	list, cards := manyCards(60)
	planned, _ := impl.PlanTree(list, cards, 2)
	read, _ := impl.ReadTree(treeTextIn(planned))
	for _, tree := range [][]impl.Knot{planned, read} {
		want := planIn(list, cards, 2)
		for i := range tree {
			fill(tree[i].Values, -7)
			fill(tree[i].Next, -7)
			fill(tree[i].Cards, -7)
			want[i].Values, want[i].Next, want[i].Cards = nil, nil, nil
			for k := i + 1; k < len(tree); k++ {
				sameOf(t, label(tree[k]), label(want[k]), "knot", k)
			}
		}
	}
}

// Calls beside each other have the results that each of them has alone.
func TestPromise1CallsOfChapter6BesideEachOther(t *testing.T) {
	a := goodTableArgs()
	var list []call
	for _, c := range tableCalls() {
		list = append(list, call{c.name, func() []any { return c.run(a) }})
	}
	checkBeside(t, list)
}
