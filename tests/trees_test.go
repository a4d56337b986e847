package tests

import (
	"math/rand"
	"slices"
	"testing"

	"loop.example/g01261/impl"
)

// sameTrees fails the test if two trees are not equal, knot by knot.
func sameTrees(t *testing.T, got, want []impl.Knot, what ...any) {
	t.Helper()
	if !impl.SameTree(got, want) || label(got) != label(want) {
		t.Errorf("%s: got %v, want %v", label(what...), got, want)
	}
}

// checkPlan checks a planned tree, and that it leads each card to its leaf.
func checkPlan(t *testing.T, list []impl.Field, cards []impl.Card, most int64) {
	t.Helper()
	tree, code := impl.PlanTree(list, cards, most)
	sameOf(t, code, int64(impl.OK), "PlanTree")
	sameTrees(t, tree, planIn(list, cards, most), "PlanTree", cards, most)
	sameOf(t, impl.ValidTree(tree), true, "ValidTree", tree)
	good, code := impl.CheckTree(list, cards, tree)
	sameOf(t, []any{good, code}, []any{true, int64(impl.OK)}, "CheckTree", cards, tree)
	seen := []int64{}
	for i, c := range cards {
		found, asked, code := impl.WalkTree(tree, rowIn(list, c))
		end, want, _ := wayIn(tree, 0, rowIn(list, c))
		same(t, "WalkTree", found, tree[end].Cards)
		sameOf(t, []int64{asked, code}, []int64{want, impl.OK}, "WalkTree", tree, i)
		sameOf(t, slices.Contains(found, int64(i)), true, "WalkTree", tree, i)
	}
	for _, k := range tree {
		seen = append(seen, k.Cards...)
	}
	slices.Sort(seen)
	same(t, "cards of leaves", seen, indicesIn(len(cards)))
	checkMeasures(t, tree)
}

func indicesIn(n int) []int64 {
	list := []int64{}
	for i := range n {
		list = append(list, int64(i))
	}
	return list
}

// checkMeasures checks what is asked on the ways to the leaves of a tree.
func checkMeasures(t *testing.T, tree []impl.Knot) {
	t.Helper()
	deepest, sum, count := int64(0), int64(0), int64(0)
	for at, k := range tree {
		if k.Field == -1 {
			deepest = max(deepest, depthIn(tree, at))
			sum += int64(len(k.Cards)) * depthIn(tree, at)
			count += int64(len(k.Cards))
		}
	}
	deep, code := impl.DeepestOf(tree)
	sameOf(t, []int64{deep, code}, []int64{deepest, impl.OK}, "DeepestOf", tree)
	mean, code := impl.MeanAsked(tree)
	if count == 0 {
		checkCode(t, "MeanAsked", []any{mean, code}, impl.ErrNotFound)
		return
	}
	sameOf(t, []any{mean, code}, []any{shareIn(sum, count), int64(impl.OK)}, "MeanAsked", tree)
}

func TestPromise14PlannedTrees(t *testing.T) {
	r := rand.New(rand.NewSource(210))
	for _, n := range []int{0, 1, 2, 3, 5, 9, 20, 59, 60} {
		for few := 1; few < 6; few++ {
			for _, list := range [][]impl.Field{tableScheme(), someScheme(), smallScheme(12), manyFields(), nil} {
				cards := tableCards(r, list, n, few)
				for _, most := range []int64{1, 2, 3, int64(max(1, n-1)), int64(max(1, n)), int64(min(60, n+1)), 60} {
					checkPlan(t, list, cards, most)
				}
			}
		}
	}
	for _, list := range goodSchemes() {
		checkPlan(t, list, tableCards(r, list, r.Intn(12), 3), 1+r.Int63n(4))
	}
	for range 300 {
		checkPlan(t, tableScheme(), tableCards(r, tableScheme(), r.Intn(61), 1+r.Intn(10)), 1+r.Int63n(1+r.Int63n(60)))
	}
}

// All cards with two fields of two values each, which may be empty or torn as well.
func TestPromise14PlansOfSmallTables(t *testing.T) {
	for n := range 4 {
		smallTables(n, func(list []impl.Field, cards []impl.Card) {
			for most := range int64(n) + 1 {
				checkPlan(t, list, cards, most+1)
			}
		})
	}
}

func TestPromise14PlansByHand(t *testing.T) {
	list := smallScheme(3)
	rows := [][]int64{{0, 0, 1}, {0, 1, 1}, {1, 0, 1}, {1, 1, 1}}
	for _, x := range []struct {
		rows [][]int64
		most int64
		want []impl.Knot
	}{
		{nil, 1, []impl.Knot{leafOf()}},
		{nil, 60, []impl.Knot{leafOf()}},
		{rows[:1], 1, []impl.Knot{leafOf(0)}},
		{rows[:2], 1, []impl.Knot{askOf(1, 0, 1, 1, 2), leafOf(0), leafOf(1)}},
		{rows[:2], 2, []impl.Knot{leafOf(0, 1)}},
		// Both fields divide the four cards alike: the first one is asked.
		{rows, 1, []impl.Knot{askOf(0, 0, 1, 1, 2), askOf(1, 0, 3, 1, 4), askOf(1, 0, 5, 1, 6), leafOf(0), leafOf(1), leafOf(2), leafOf(3)}},
		{rows, 2, []impl.Knot{askOf(0, 0, 1, 1, 2), leafOf(0, 1), leafOf(2, 3)}},
		{rows, 3, []impl.Knot{askOf(0, 0, 1, 1, 2), leafOf(0, 1), leafOf(2, 3)}},
		{rows, 4, []impl.Knot{leafOf(0, 1, 2, 3)}},
		{[][]int64{rows[3], rows[2], rows[1], rows[0]}, 1, []impl.Knot{askOf(0, 0, 1, 1, 2), askOf(1, 0, 3, 1, 4), askOf(1, 0, 5, 1, 6), leafOf(3), leafOf(2), leafOf(1), leafOf(0)}},
		// A later field divides better.
		{[][]int64{{0, 0, 0}, {0, 0, 1}, {0, 1, -1}, {1, 1, -2}}, 1, []impl.Knot{askOf(2, -2, 1, -1, 2, 0, 3, 1, 4), leafOf(3), leafOf(2), leafOf(0), leafOf(1)}},
		// Cards with the same values in all fields stay in one leaf.
		{[][]int64{rows[0], rows[0], rows[0]}, 1, []impl.Knot{leafOf(0, 1, 2)}},
		{[][]int64{rows[0], rows[1], rows[0]}, 1, []impl.Knot{askOf(1, 0, 1, 1, 2), leafOf(0, 2), leafOf(1)}},
		{[][]int64{{-1, -1, -1}, {-2, -1, -1}, {-1, -1, -1}}, 1, []impl.Knot{askOf(0, -2, 1, -1, 2), leafOf(1), leafOf(0, 2)}},
		// Two knots of one tree ask different fields next.
		{[][]int64{{0, 0, 0}, {0, 1, 0}, {1, 0, 0}, {1, 0, 1}}, 1, []impl.Knot{askOf(0, 0, 1, 1, 2), askOf(1, 0, 3, 1, 4), askOf(2, 0, 5, 1, 6), leafOf(0), leafOf(1), leafOf(2), leafOf(3)}},
	} {
		cards := cardsWith(list, x.rows...)
		tree, code := impl.PlanTree(list, cards, x.most)
		sameTrees(t, tree, x.want, "PlanTree", x.rows, x.most)
		same(t, "PlanTree", code, int64(impl.OK))
		checkPlan(t, list, cards, x.most)
	}
	tree, code := impl.PlanTree(nil, cardsWith(list, rows...), 1)
	sameTrees(t, tree, []impl.Knot{leafOf(0, 1, 2, 3)}, "PlanTree without fields")
	same(t, "PlanTree", code, int64(impl.OK))
}

// MaxTable cards that are divided one by one have as many knots as a planned tree may have.
func TestPromise14LargestPlans(t *testing.T) {
	list, cards := manyCards(60)
	for most, knots := range map[int64]int{1: 119, 60: 1, 59: 3, 2: 63} {
		tree, code := impl.PlanTree(list, cards, most)
		same(t, label("PlanTree", most), []int64{int64(len(tree)), code}, []int64{int64(knots), impl.OK})
		checkPlan(t, list, cards, most)
	}
	slices.Reverse(cards)
	checkPlan(t, list, cards, 1)
	// One card has a value of its own in each field: the tree is as deep as there are fields.
	deep := smallScheme(12)
	var rows [][]int64
	for i := range 13 {
		row := make([]int64, 12)
		if i < 12 {
			row[i] = 1
		}
		rows = append(rows, row)
	}
	tree, _ := impl.PlanTree(deep, cardsWith(deep, rows...), 1)
	deepest, code := impl.DeepestOf(tree)
	same(t, "DeepestOf", []int64{deepest, code}, []int64{12, impl.OK})
	checkPlan(t, deep, cardsWith(deep, rows...), 1)
}

func TestPromise14ValidTrees(t *testing.T) {
	for _, tree := range goodTrees() {
		sameOf(t, []bool{impl.ValidTree(tree), isTreeIn(tree)}, []bool{true, true}, "ValidTree", tree)
	}
	for i, tree := range wrongTrees() {
		sameOf(t, []bool{impl.ValidTree(tree), isTreeIn(tree)}, []bool{false, false}, "ValidTree", i)
	}
	for field := int64(-1 << 15); field < 1<<15; field++ {
		same(t, label("asking", field), impl.ValidTree([]impl.Knot{askOf(int16(field), 0, 1), leafOf()}), field >= 0 && field < 12)
	}
	for card := int64(-70); card < 140; card++ {
		same(t, label("leaf", card), impl.ValidTree([]impl.Knot{leafOf(card)}), card >= 0 && card < 60)
	}
}

// wornTree changes one thing of a tree.
func wornTree(r *rand.Rand, tree []impl.Knot) []impl.Knot {
	after := []impl.Knot{}
	for _, k := range tree {
		after = append(after, impl.Knot{Field: k.Field, Values: slices.Clone(k.Values), Next: slices.Clone(k.Next), Cards: slices.Clone(k.Cards)})
	}
	k := &after[r.Intn(len(after))]
	number := []int64{-3, -2, -1, 0, 1, 2, 5, 11, 12, 59, 60, int64(len(tree)) - 1, int64(len(tree))}[r.Intn(13)]
	switch r.Intn(9) {
	case 0:
		k.Field = int16(number)
	case 1:
		k.Cards = append(k.Cards, number)
	case 2:
		k.Values = append(k.Values, number)
	case 3:
		k.Next = append(k.Next, int16(number))
	case 4:
		k.Values, k.Next = append(k.Values, 200), append(k.Next, int16(number))
	case 5:
		if len(k.Next) > 0 {
			k.Next[r.Intn(len(k.Next))] = int16(number)
		}
	case 6:
		if len(k.Values) > 0 {
			k.Values[r.Intn(len(k.Values))] = number
		}
	case 7:
		if len(k.Cards) > 0 {
			k.Cards[r.Intn(len(k.Cards))] = number
		}
	case 8:
		after = append(after, leafOf(number))
	}
	return after
}

func TestPromise14TreesWithOneThingWrong(t *testing.T) {
	r := rand.New(rand.NewSource(211))
	right := 0
	for range 20000 {
		tree := wornTree(r, randomTree(r, 1+r.Intn(6)))
		valid := isTreeIn(tree)
		sameOf(t, impl.ValidTree(tree), valid, "ValidTree", tree)
		if valid {
			right++
			checkMeasures(t, tree)
		}
	}
	if right < 1000 || right > 19000 {
		t.Errorf("%d trees are valid", right)
	}
}

func TestPromise14SameTrees(t *testing.T) {
	r := rand.New(rand.NewSource(212))
	list := append(wrongTrees()[:40], goodTrees()[:20]...)
	for i, a := range list {
		for k, b := range list {
			want := label(a) == label(b) // what is printed of a knot has all of it
			sameOf(t, impl.SameTree(a, b), want, "SameTree", i, k)
		}
	}
	for range 2000 {
		tree := randomTree(r, 1+r.Intn(6))
		worn := wornTree(r, tree)
		sameOf(t, impl.SameTree(tree, worn), label(tree) == label(worn), "SameTree", tree, worn)
		sameOf(t, impl.SameTree(worn, tree), label(tree) == label(worn), "SameTree", worn, tree)
		sameOf(t, impl.SameTree(tree, tree[:len(tree)-1]), false, "SameTree", tree)
	}
	same(t, "no trees", impl.SameTree(nil, []impl.Knot{}), true)
	same(t, "empty lists", impl.SameTree([]impl.Knot{{Field: 3}}, []impl.Knot{{Field: 3, Values: []int64{}, Next: []int16{}, Cards: []int64{}}}), true)
}

// Values lead to a leaf, or come to the first knot that has an error.
func TestPromise14Walks(t *testing.T) {
	tree := []impl.Knot{askOf(1, -1, 1, 5, 2), askOf(4, 0, 3, 7, 4), leafOf(3, 9), leafOf(), leafOf(0, 30)}
	for _, x := range []struct {
		values      []int64
		cards       []int64
		asked, code int64
	}{
		{[]int64{0, 5}, []int64{3, 9}, 1, impl.OK},
		{[]int64{-5, 5, 1 << 62}, []int64{3, 9}, 1, impl.OK},
		{[]int64{0, -1, 0, 0, 0}, nil, 2, impl.OK},
		{[]int64{0, -1, 0, 0, 7}, []int64{0, 30}, 2, impl.OK},
		{[]int64{0, -1, 0, 0, 7, 9, 9, 9}, []int64{0, 30}, 2, impl.OK},
		{[]int64{0, -1, 0, 0, 1}, nil, 0, impl.ErrNotFound},
		{[]int64{0, -1, 0, 0, -1}, nil, 0, impl.ErrNotFound},
		{[]int64{0, -1, 0, 0, 8}, nil, 0, impl.ErrNotFound},
		{[]int64{0, -1, 0, 0}, nil, 0, impl.ErrRange},
		{[]int64{0, -1}, nil, 0, impl.ErrRange},
		{[]int64{0, -2}, nil, 0, impl.ErrNotFound}, // at the first knot, though there is no field for the next one
		{[]int64{0, 6}, nil, 0, impl.ErrNotFound},
		{[]int64{0, -1 << 63}, nil, 0, impl.ErrNotFound},
		{[]int64{5}, nil, 0, impl.ErrRange},
		{nil, nil, 0, impl.ErrRange},
	} {
		cards, asked, code := impl.WalkTree(tree, x.values)
		same(t, label("WalkTree", x.values), cards, x.cards)
		same(t, label("WalkTree", x.values), []int64{asked, code}, []int64{x.asked, x.code})
	}
	cards, asked, code := impl.WalkTree([]impl.Knot{leafOf(4, 5)}, nil)
	same(t, "one leaf", []any{cards, asked, code}, []any{[]int64{4, 5}, int64(0), int64(impl.OK)})
}

func TestPromise14RandomWalks(t *testing.T) {
	r := rand.New(rand.NewSource(213))
	ways := map[int64]int{}
	for range 20000 {
		tree := randomTree(r, 1+r.Intn(12))
		values := make([]int64, 2+r.Intn(12))
		for i := range values {
			values[i] = r.Int63n(6) - 3
		}
		end, asked, want := wayIn(tree, 0, values)
		cards, n, code := impl.WalkTree(tree, values)
		ways[code]++
		sameOf(t, []int64{n, code}, []int64{asked, want}, "WalkTree", tree, values)
		if want == impl.OK {
			same(t, "WalkTree", cards, tree[end].Cards)
		} else {
			same(t, "WalkTree", len(cards), 0)
		}
	}
	for _, code := range []int64{impl.OK, impl.ErrRange, impl.ErrNotFound} {
		if ways[code] < 500 {
			t.Errorf("%d walks have the code %d", ways[code], code)
		}
	}
	for _, n := range []int{119, 120} {
		values := []int64{0, 0, 0, 0, 0, 0, 0, 0, 0, 0, 0, int64(n) - 4}
		cards, asked, code := impl.WalkTree(starTree(n), values)
		same(t, "star", []any{cards, asked, code}, []any{[]int64{int64(n-1) % 60}, int64(1), int64(impl.OK)})
		deep, code := impl.DeepestOf(chainTree(n))
		same(t, "chain", []int64{deep, code}, []int64{int64(n) - 1, impl.OK})
		mean, code := impl.MeanAsked(chainTree(n))
		same(t, "chain", []any{mean, code}, []any{impl.Share{P: int64(n) - 1, Q: 1}, int64(impl.OK)})
	}
}

func TestPromise14Measures(t *testing.T) {
	for _, tree := range goodTrees() {
		checkMeasures(t, tree)
	}
	for _, x := range []struct {
		tree []impl.Knot
		deep int64
		mean impl.Share
	}{
		{[]impl.Knot{leafOf()}, 0, impl.Share{}},
		{[]impl.Knot{leafOf(0, 1, 2)}, 0, impl.Share{P: 0, Q: 1}},
		{[]impl.Knot{askOf(0, 0, 1), leafOf()}, 1, impl.Share{}},
		{[]impl.Knot{askOf(0, 0, 1), leafOf(0, 1, 2)}, 1, impl.Share{P: 1, Q: 1}},
		{[]impl.Knot{askOf(0, 0, 1), askOf(1, 0, 2), leafOf(0, 1)}, 2, impl.Share{P: 2, Q: 1}},
		{[]impl.Knot{askOf(0, 0, 1, 1, 2), askOf(1, 0, 3, 1, 4), leafOf(0), leafOf(1), leafOf(2)}, 2, impl.Share{P: 5, Q: 3}},
		{[]impl.Knot{askOf(0, 0, 1, 1, 2), askOf(1, 0, 3, 1, 4), leafOf(0, 1), leafOf(), leafOf(2, 3)}, 2, impl.Share{P: 3, Q: 2}},
		{[]impl.Knot{askOf(0, 0, 1, 1, 2), askOf(1, 0, 3), leafOf(0, 1), askOf(1, 0, 4), leafOf()}, 3, impl.Share{P: 1, Q: 1}}, // the deepest leaf has no cards
		{[]impl.Knot{askOf(0, 0, 1, 1, 2), leafOf(7), leafOf(7)}, 1, impl.Share{P: 1, Q: 1}},                                   // a card in two leaves counts twice
		{[]impl.Knot{askOf(0, 0, 1, 1, 2), leafOf(7), askOf(0, 1, 3), leafOf(7)}, 2, impl.Share{P: 3, Q: 2}},
	} {
		deep, code := impl.DeepestOf(x.tree)
		same(t, label("DeepestOf", x.tree), []int64{deep, code}, []int64{x.deep, impl.OK})
		mean, code := impl.MeanAsked(x.tree)
		want := int64(impl.OK)
		if x.mean.Q == 0 {
			want = impl.ErrNotFound
		}
		same(t, label("MeanAsked", x.tree), []any{mean, code}, []any{x.mean, want})
	}
}

func TestPromise14CheckedByHand(t *testing.T) {
	list := smallScheme(2)
	cards := cardsWith(list, []int64{0, 0}, []int64{1, -1}, []int64{0, 1})
	for _, x := range []struct {
		tree []impl.Knot
		want bool
	}{
		{[]impl.Knot{leafOf(0, 1, 2)}, true},
		{[]impl.Knot{leafOf(0, 1)}, false},       // a card in no leaf
		{[]impl.Knot{leafOf(0, 1, 2, 3)}, false}, // a leaf with a card that there is not
		{[]impl.Knot{leafOf(0, 1, 2, 59)}, false},
		{[]impl.Knot{leafOf()}, false},
		{[]impl.Knot{askOf(0, 0, 1, 1, 2), leafOf(0, 2), leafOf(1)}, true},
		{[]impl.Knot{askOf(0, 0, 1, 1, 2), leafOf(1), leafOf(0, 2)}, false}, // cards in another one's
		{[]impl.Knot{askOf(0, 0, 1, 1, 2), leafOf(0, 1, 2), leafOf(1)}, false},
		{[]impl.Knot{askOf(0, 0, 1, 1, 2), leafOf(0, 2), leafOf()}, false},
		{[]impl.Knot{askOf(0, 0, 1, 1, 2), leafOf(0, 2), leafOf(1, 3)}, false},
		{[]impl.Knot{askOf(0, 0, 1), leafOf(0, 2)}, false},                                                 // a value that the knot does not have
		{[]impl.Knot{askOf(0, -1, 1, 0, 2, 1, 3), leafOf(), leafOf(0, 2), leafOf(1)}, true},                // no card comes to the first leaf
		{[]impl.Knot{askOf(0, -1, 1, 0, 2, 1, 3), leafOf(1), leafOf(0, 2), leafOf(1)}, false},              // and it has one
		{[]impl.Knot{askOf(2, 0, 1, 1, 2), leafOf(0, 1, 2), leafOf()}, false},                              // the scheme has no such field
		{[]impl.Knot{askOf(11, 0, 1), leafOf(0, 1, 2)}, false},                                             // likewise
		{[]impl.Knot{askOf(1, -1, 1, 0, 2, 1, 3), leafOf(1), leafOf(0), leafOf(2)}, true},                  // what is empty is a value
		{[]impl.Knot{askOf(0, 0, 1, 1, 2), askOf(0, 0, 3), leafOf(1), leafOf(0, 2)}, true},                 // a field is asked twice
		{[]impl.Knot{askOf(0, 0, 1, 1, 2), askOf(0, 1, 3), leafOf(1), leafOf(0, 2)}, false},                // with another value
		{[]impl.Knot{askOf(0, 0, 1, 1, 2), leafOf(0, 2), askOf(2, 0, 3), leafOf(1)}, false},                // just one way comes to such a field
		{[]impl.Knot{askOf(0, 0, 1, 1, 2, 5, 3), leafOf(0, 2), leafOf(1), askOf(2, 0, 4), leafOf()}, true}, // no card comes to such a field
	} {
		good, code := impl.CheckTree(list, cards, x.tree)
		same(t, label("CheckTree", x.tree), []any{good, code}, []any{x.want, int64(impl.OK)})
		same(t, label("tree", x.tree), leadsIn(list, cards, x.tree), x.want)
	}
	for _, x := range []struct {
		tree []impl.Knot
		want bool
	}{{[]impl.Knot{leafOf()}, true}, {[]impl.Knot{leafOf(0)}, false}, {[]impl.Knot{askOf(11, 0, 1), leafOf()}, true}} {
		good, code := impl.CheckTree(nil, nil, x.tree)
		same(t, label("no cards", x.tree), []any{good, code}, []any{x.want, int64(impl.OK)})
	}
}

// A planned tree of which one thing has become another one is checked right.
func TestPromise14CheckedTreesWithOneThingWrong(t *testing.T) {
	r := rand.New(rand.NewSource(214))
	right, wrong := 0, 0
	for range 6000 {
		list := smallScheme(3)
		cards := tableCards(r, list, r.Intn(7), 2)
		tree, _ := impl.PlanTree(list, cards, 1+r.Int63n(3))
		tree = wornTree(r, tree)
		good, code := impl.CheckTree(list, cards, tree)
		if !isTreeIn(tree) {
			checkCode(t, "CheckTree", []any{good, code}, impl.ErrInvalid)
			continue
		}
		want := leadsIn(list, cards, tree)
		sameOf(t, []any{good, code}, []any{want, int64(impl.OK)}, "CheckTree", cards, tree)
		if want {
			right++
		} else {
			wrong++
		}
	}
	if right < 100 || wrong < 100 {
		t.Errorf("%d trees are right, and %d are wrong", right, wrong)
	}
}

// The document's example, by itself.
func TestPromise14ExampleOfChapter6(t *testing.T) {
	list := []impl.Field{{Name: "kind", Kind: impl.KdDirect, Size: 6}}
	cards := cardsWith(list, []int64{1}, []int64{2})
	tree, code := impl.PlanTree(list, cards, 1)
	sameTrees(t, tree, []impl.Knot{askOf(0, 1, 1, 2, 2), leafOf(0), leafOf(1)}, "PlanTree")
	same(t, "PlanTree", code, int64(impl.OK))
	mean, code := impl.MeanAsked(tree)
	same(t, "MeanAsked", []any{mean, code}, []any{impl.Share{P: 1, Q: 1}, int64(impl.OK)})
	tree, code = impl.PlanTree(list, cards, 2)
	sameTrees(t, tree, []impl.Knot{leafOf(0, 1)}, "PlanTree")
	same(t, "PlanTree", code, int64(impl.OK))
}
