package tests

import (
	"math/rand"
	"testing"

	"loop.example/g01261/impl"
)

// checkTable checks all that is counted of some cards against what is counted in another way.
func checkTable(t *testing.T, list []impl.Field, cards []impl.Card) {
	t.Helper()
	for i, f := range list {
		column := columnIn(f, cards)
		checkCounts(t, list, cards, int64(i), column)
		for k, g := range list {
			other := columnIn(g, cards)
			cells, code := impl.CrossOf(list, cards, int64(i), int64(k))
			sameOf(t, code, int64(impl.OK), "CrossOf", i, k)
			same(t, "CrossOf", cells, cellsIn(column, other))
			checkSums(t, list, cards, int64(i), int64(k))
			follows, code := impl.FollowsFrom(list, cards, int64(i), int64(k))
			sameOf(t, []any{follows, code}, []any{followsIn(column, other), int64(impl.OK)}, "FollowsFrom", cards, i, k)
		}
	}
	checkBest(t, list, cards)
}

// checkCounts checks what is counted of one field.
func checkCounts(t *testing.T, list []impl.Field, cards []impl.Card, field int64, column []int64) {
	t.Helper()
	for i, c := range cards {
		value, code := impl.ValueIn(list[field], c)
		sameOf(t, []int64{value, code}, []int64{column[i], impl.OK}, "ValueIn", list[field], c)
	}
	tallies, code := impl.TallyOf(list, cards, field)
	sameOf(t, code, int64(impl.OK), "TallyOf", field)
	same(t, "TallyOf", tallies, talliesIn(column))
	split, code := impl.SplitOf(list, cards, field)
	sameOf(t, []int64{split, code}, []int64{splitIn(column), impl.OK}, "SplitOf", field)
	value, share, code := impl.CommonValue(list, cards, field)
	if len(cards) == 0 {
		checkCode(t, "CommonValue", []any{value, share, code}, impl.ErrNotFound)
		return
	}
	best, most := int64(0), int64(0)
	for _, x := range differentIn(column) {
		if times := timesIn(column, x); times > most {
			best, most = x, times
		}
	}
	sameOf(t, []any{value, share, code}, []any{best, shareIn(most, int64(len(cards))), int64(impl.OK)}, "CommonValue", cards, field)
}

// checkSums checks that counts add up to the number of cards, and those of pairs to those of their values.
func checkSums(t *testing.T, list []impl.Field, cards []impl.Card, field, other int64) {
	t.Helper()
	tallies, _ := impl.TallyOf(list, cards, field)
	others, _ := impl.TallyOf(list, cards, other)
	cells, _ := impl.CrossOf(list, cards, field, other)
	sum := int64(0)
	counts, otherCounts := map[int64]int64{}, map[int64]int64{}
	for _, cell := range cells {
		sum += cell.Count
		counts[cell.A] += cell.Count
		otherCounts[cell.B] += cell.Count
	}
	sameOf(t, sum, int64(len(cards)), "sum of CrossOf", field, other)
	sum = 0
	for _, x := range tallies {
		sum += x.Count
		sameOf(t, counts[x.Value], x.Count, "CrossOf and TallyOf", field, other)
	}
	for _, x := range others {
		sameOf(t, otherCounts[x.Value], x.Count, "CrossOf and TallyOf", field, other)
	}
	sameOf(t, sum, int64(len(cards)), "sum of TallyOf", field)
}

func checkBest(t *testing.T, list []impl.Field, cards []impl.Card) {
	t.Helper()
	best, split, code := impl.BestField(list, cards)
	if len(list) == 0 {
		checkCode(t, "BestField", []any{best, split, code}, impl.ErrNotFound)
		return
	}
	field, least := 0, splitIn(columnIn(list[0], cards))
	for i, f := range list {
		if s := splitIn(columnIn(f, cards)); s < least {
			field, least = i, s
		}
	}
	sameOf(t, []int64{best, split, code}, []int64{int64(field), least, impl.OK}, "BestField", cards)
}

func TestPromise13CountsOfCards(t *testing.T) {
	r := rand.New(rand.NewSource(201))
	for _, n := range []int{0, 1, 2, 3, 4, 5, 59, 60} {
		for few := 1; few < 5; few++ {
			checkTable(t, tableScheme(), tableCards(r, tableScheme(), n, few))
			checkTable(t, someScheme(), tableCards(r, someScheme(), n, few))
		}
	}
	for _, list := range goodSchemes() {
		checkTable(t, list, tableCards(r, list, r.Intn(9), 3))
	}
	for range 100 {
		n := r.Intn(61)
		checkTable(t, tableScheme(), tableCards(r, tableScheme(), n, 1+r.Intn(10)))
	}
}

// All cards with two fields of two values each, which may be empty or torn as well.
func TestPromise13CountsOfSmallTables(t *testing.T) {
	for n := range 4 {
		smallTables(n, func(list []impl.Field, cards []impl.Card) { checkTable(t, list, cards) })
	}
}

// A field of each kind keeps its least and its greatest value, nothing, and what stands for no value; the other holes do not matter.
func TestPromise13ValuesInFields(t *testing.T) {
	for _, f := range fieldsAtPlaces() {
		part := partMask(f)
		most := valuesOf(f.Kind, int64(f.Size)) - 1
		for _, others := range []impl.Mask{{}, lessOf(fullMask, part)} {
			for _, x := range []struct {
				kept impl.Mask
				want int64
			}{{impl.Mask{}, -1}, {codeMask(f, 0), 0}, {codeMask(f, most), most}, {tornPart(f), -2}} {
				if x.want == -2 && f.Kind == impl.KdDirect && f.Size == 1 {
					x.want = 0 // the one notch that it may have is a value
				}
				value, code := impl.ValueIn(f, impl.Card{Name: "ant", Notches: joined(others, x.kept)})
				sameOf(t, []int64{value, code}, []int64{x.want, impl.OK}, "ValueIn", f, x)
			}
		}
	}
}

// What is counted by hand: two cards with 1, two with nothing, one that is torn, and three with 0.
func TestPromise13CountsByHand(t *testing.T) {
	list := smallScheme(2)
	cards := cardsWith(list, []int64{1, 0}, []int64{0, 1}, []int64{-1, -1}, []int64{0, 0}, []int64{-2, -2}, []int64{-1, -1}, []int64{0, 1}, []int64{1, 0})
	tallies, code := impl.TallyOf(list, cards, 0)
	same(t, "TallyOf", tallies, []impl.Tally{{Value: -2, Count: 1}, {Value: -1, Count: 2}, {Value: 0, Count: 3}, {Value: 1, Count: 2}})
	same(t, "TallyOf", code, int64(impl.OK))
	cells, code := impl.CrossOf(list, cards, 0, 1)
	same(t, "CrossOf", cells, []impl.Cell{{A: -2, B: -2, Count: 1}, {A: -1, B: -1, Count: 2}, {A: 0, B: 0, Count: 1}, {A: 0, B: 1, Count: 2}, {A: 1, B: 0, Count: 2}})
	same(t, "CrossOf", code, int64(impl.OK))
	cells, _ = impl.CrossOf(list, cards, 1, 0)
	same(t, "CrossOf", cells, []impl.Cell{{A: -2, B: -2, Count: 1}, {A: -1, B: -1, Count: 2}, {A: 0, B: 0, Count: 1}, {A: 0, B: 1, Count: 2}, {A: 1, B: 0, Count: 2}})
	cells, _ = impl.CrossOf(list, cards, 0, 0)
	same(t, "CrossOf", cells, []impl.Cell{{A: -2, B: -2, Count: 1}, {A: -1, B: -1, Count: 2}, {A: 0, B: 0, Count: 3}, {A: 1, B: 1, Count: 2}})
	value, share, code := impl.CommonValue(list, cards, 0)
	same(t, "CommonValue", []any{value, share, code}, []any{int64(0), impl.Share{P: 3, Q: 8}, int64(impl.OK)})
	split, code := impl.SplitOf(list, cards, 0)
	same(t, "SplitOf", []int64{split, code}, []int64{18, impl.OK})
	best, least, code := impl.BestField(list, cards)
	same(t, "BestField", []int64{best, least, code}, []int64{0, 18, impl.OK})
	for _, x := range []struct {
		field, other int64
		want         bool
	}{{0, 0, true}, {1, 1, true}, {0, 1, false}, {1, 0, false}} {
		follows, code := impl.FollowsFrom(list, cards, x.field, x.other)
		same(t, label("FollowsFrom", x), []any{follows, code}, []any{x.want, int64(impl.OK)})
	}
}

// Of values that are as common the least one is told, and of fields with the same split the first one.
func TestPromise13Ties(t *testing.T) {
	list := smallScheme(3)
	for _, x := range []struct {
		rows  [][]int64
		value int64
		share impl.Share
	}{
		{[][]int64{{1, 0, 0}, {0, 0, 0}}, 0, impl.Share{P: 1, Q: 2}},
		{[][]int64{{0, 0, 0}, {1, 0, 0}}, 0, impl.Share{P: 1, Q: 2}},
		{[][]int64{{1, 0, 0}, {-1, 0, 0}}, -1, impl.Share{P: 1, Q: 2}},
		{[][]int64{{-1, 0, 0}, {-2, 0, 0}}, -2, impl.Share{P: 1, Q: 2}},
		{[][]int64{{1, 0, 0}, {0, 0, 0}, {-1, 0, 0}, {-2, 0, 0}}, -2, impl.Share{P: 1, Q: 4}},
		{[][]int64{{1, 0, 0}, {0, 0, 0}, {-1, 0, 0}, {1, 0, 0}, {-1, 0, 0}, {0, 0, 0}}, -1, impl.Share{P: 1, Q: 3}},
		{[][]int64{{1, 0, 0}, {1, 0, 0}, {0, 0, 0}}, 1, impl.Share{P: 2, Q: 3}},
		{[][]int64{{1, 0, 0}, {1, 0, 0}}, 1, impl.Share{P: 1, Q: 1}},
		{[][]int64{{-2, 0, 0}, {1, 0, 0}, {1, 0, 0}, {1, 0, 0}}, 1, impl.Share{P: 3, Q: 4}},
	} {
		value, share, code := impl.CommonValue(list, cardsWith(list, x.rows...), 0)
		same(t, label("CommonValue", x.rows), []any{value, share, code}, []any{x.value, x.share, int64(impl.OK)})
	}
	for _, x := range []struct {
		rows        [][]int64
		best, split int64
	}{
		{[][]int64{{0, 0, 1}, {1, 1, 0}}, 0, 2},
		{[][]int64{{0, 0, 1}, {0, 1, 0}}, 1, 2},
		{[][]int64{{0, 1, 1}, {0, 1, 0}}, 2, 2},
		{[][]int64{{0, 1, 1}, {0, 1, 1}}, 0, 4},
		{[][]int64{{0, -1, 1}}, 0, 1},
		{[][]int64{{0, 0, 0}, {0, 0, -1}, {0, -1, 0}, {0, -1, -2}}, 2, 6},
		{[][]int64{{0, -1, 0}, {0, 0, -1}, {0, 0, 0}, {1, -2, -2}}, 1, 6},
		{nil, 0, 0},
	} {
		best, split, code := impl.BestField(list, cardsWith(list, x.rows...))
		same(t, label("BestField", x.rows), []int64{best, split, code}, []int64{x.best, x.split, impl.OK})
	}
}

// No value of a field goes with two of another one just if it follows; what is empty or torn is a value here, too.
func TestPromise13WhatFollows(t *testing.T) {
	list := smallScheme(2)
	for _, x := range []struct {
		rows [][]int64
		want bool
	}{
		{nil, true},
		{[][]int64{{0, 1}}, true},
		{[][]int64{{0, 1}, {0, 1}}, true},
		{[][]int64{{0, 1}, {0, 0}}, false},
		{[][]int64{{0, 1}, {1, 1}}, true},
		{[][]int64{{0, 1}, {1, 0}}, true},
		{[][]int64{{-1, 1}, {-1, 0}}, false},
		{[][]int64{{-2, 1}, {-2, -1}}, false},
		{[][]int64{{-1, -2}, {-1, -1}}, false},
		{[][]int64{{-1, -2}, {-2, -1}}, true},
		{[][]int64{{0, 0}, {1, 0}, {-1, 0}, {-2, 0}, {1, 0}}, true},
		{[][]int64{{0, 0}, {1, 0}, {-1, 0}, {-2, 0}, {1, 1}}, false},
	} {
		follows, code := impl.FollowsFrom(list, cardsWith(list, x.rows...), 0, 1)
		same(t, label("FollowsFrom", x.rows), []any{follows, code}, []any{x.want, int64(impl.OK)})
	}
}

// Cards of a table are no deck: they may have the same name, and be alike.
func TestPromise13CardsWithOneName(t *testing.T) {
	list := smallScheme(1)
	cards := notchedCards(maskOf(0), maskOf(0), maskOf(1))
	tallies, code := impl.TallyOf(list, cards, 0)
	same(t, "TallyOf", tallies, []impl.Tally{{Value: 0, Count: 2}, {Value: 1, Count: 1}})
	same(t, "TallyOf", code, int64(impl.OK))
	counts, code := impl.HoleTally(cards)
	same(t, "HoleTally", counts[:3], []int64{2, 1, 0})
	same(t, "HoleTally", code, int64(impl.OK))
	tree, code := impl.PlanTree(list, cards, 1)
	same(t, "PlanTree", tree, []impl.Knot{askOf(0, 0, 1, 1, 2), leafOf(0, 1), leafOf(2)})
	same(t, "PlanTree", code, int64(impl.OK))
}

// checkHoles checks what is counted at holes.
func checkHoles(t *testing.T, cards []impl.Card, holes []int64) {
	t.Helper()
	var idle []int64
	want := make([]int64, 96)
	for hole := range int64(96) {
		for _, c := range cards {
			if isNotched(c.Notches, hole) {
				want[hole]++
			}
		}
		if want[hole] == 0 {
			idle = append(idle, hole)
		}
	}
	counts, code := impl.HoleTally(cards)
	sameOf(t, counts, want, "HoleTally", cards)
	sameOf(t, code, int64(impl.OK), "HoleTally")
	m, code := impl.IdleHoles(cards)
	sameOf(t, []any{m, code}, []any{maskOf(idle...), int64(impl.OK)}, "IdleHoles", cards)
	for _, hole := range holes {
		for _, other := range holes {
			both := int64(0)
			for _, c := range cards {
				if isNotched(c.Notches, hole) && isNotched(c.Notches, other) {
					both++
				}
			}
			n, code := impl.TogetherOf(cards, hole, other)
			sameOf(t, []int64{n, code}, []int64{both, impl.OK}, "TogetherOf", hole, other)
		}
	}
}

func TestPromise13Holes(t *testing.T) {
	r := rand.New(rand.NewSource(202))
	edges := []int64{0, 1, 31, 32, 62, 63, 64, 65, 94, 95}
	checkHoles(t, nil, edges)
	checkHoles(t, []impl.Card{}, edges)
	checkHoles(t, notchedCards(impl.Mask{}), edges)
	checkHoles(t, notchedCards(fullMask), edges)
	checkHoles(t, notchedCards(fullMask, impl.Mask{}, fullMask), edges)
	for hole := range int64(96) {
		checkHoles(t, notchedCards(maskOf(hole), maskOf(hole, 5)), []int64{hole, 5, 95 - hole})
	}
	for _, n := range []int{1, 2, 7, 59, 60} {
		checkHoles(t, notchedCards(randomMasks(r, n)...), edges)
	}
	full := make([]impl.Mask, 60)
	for i := range full {
		full[i] = fullMask
	}
	checkHoles(t, notchedCards(full...), edges)
	n, code := impl.TogetherOf(notchedCards(full...), 95, 95)
	same(t, "TogetherOf", []int64{n, code}, []int64{60, impl.OK})
}
