package tests

import (
	"math/big"
	"math/rand"
	"slices"
	"strconv"
	"strings"

	"loop.example/g01261/impl"
)

// valueAt tells the value in a field of a mask: -1 if it is empty, and -2 if it has none.
func valueAt(f impl.Field, m impl.Mask) int64 {
	value, code := readIn(f, m)
	switch code {
	case impl.ErrNotFound:
		return -1
	case impl.ErrProof:
		return -2
	}
	return value
}

// rowIn tells the values of a card in all fields.
func rowIn(list []impl.Field, c impl.Card) []int64 {
	row := []int64{}
	for _, f := range list {
		row = append(row, valueAt(f, c.Notches))
	}
	return row
}

// columnIn tells the values of all cards in one field.
func columnIn(f impl.Field, cards []impl.Card) []int64 {
	column := []int64{}
	for _, c := range cards {
		column = append(column, valueAt(f, c.Notches))
	}
	return column
}

// timesIn tells how often a value is in a list.
func timesIn(list []int64, value int64) int64 {
	times := int64(0)
	for _, x := range list {
		if x == value {
			times++
		}
	}
	return times
}

// differentIn tells the different values of a list, in order.
func differentIn(list []int64) []int64 {
	sorted := slices.Clone(list)
	slices.Sort(sorted)
	return slices.Compact(sorted)
}

func talliesIn(column []int64) []impl.Tally {
	list := []impl.Tally{}
	for _, value := range differentIn(column) {
		list = append(list, impl.Tally{Value: value, Count: timesIn(column, value)})
	}
	return list
}

// cellsIn tries each value of the one column with each of the other one.
func cellsIn(column, other []int64) []impl.Cell {
	list := []impl.Cell{}
	for _, a := range differentIn(column) {
		for _, b := range differentIn(other) {
			count := int64(0)
			for i := range column {
				if column[i] == a && other[i] == b {
					count++
				}
			}
			if count > 0 {
				list = append(list, impl.Cell{A: a, B: b, Count: count})
			}
		}
	}
	return list
}

// splitIn counts the pairs of cards, also of a card with itself, that have the same value: the square of the count of each value.
func splitIn(column []int64) int64 {
	pairs := int64(0)
	for _, value := range column {
		pairs += timesIn(column, value)
	}
	return pairs
}

// followsIn tells whether all cards with the same value have the same other one.
func followsIn(column, other []int64) bool {
	for i := range column {
		for k := range column {
			if column[i] == column[k] && other[i] != other[k] {
				return false
			}
		}
	}
	return true
}

// shareIn tells a fraction without common divisors.
func shareIn(part, whole int64) impl.Share {
	x := big.NewRat(part, whole)
	return impl.Share{P: x.Num().Int64(), Q: x.Denom().Int64()}
}

// timesBillionths multiplies by a part and divides by a whole, several times, with numbers without end.
func timesBillionths(part, whole, times int64) int64 {
	chance := big.NewInt(1000000000)
	for range times {
		chance.Mul(chance, big.NewInt(part))
		chance.Quo(chance, big.NewInt(whole))
	}
	return chance.Int64()
}

// falseChanceIn tells the chance of a false drop.
func falseChanceIn(size, per, words, asked int64) int64 {
	whole := timesBillionths(size-per, size, words)
	return timesBillionths(1000000000-whole, 1000000000, per*asked)
}

// tableScheme has fields of all four kinds with few values, in no order, with holes between them.
func tableScheme() []impl.Field {
	return []impl.Field{
		{Name: "count", Kind: impl.KdBinary, Start: 62, Size: 3},
		{Name: "kind", Kind: impl.KdDirect, Start: 2, Size: 4},
		{Name: "year", Kind: impl.KdSum, Start: 10, Size: 1},
		{Name: "place", Kind: impl.KdPairs, Start: 90, Size: 1},
		{Name: "one", Kind: impl.KdDirect, Start: 0, Size: 1},
	}
}

// tableCards returns n cards most of which have one of few values in each field, and some nothing, or what stands for no value.
func tableCards(r *rand.Rand, list []impl.Field, n, few int) []impl.Card {
	var parts impl.Mask
	for _, f := range list {
		parts = joined(parts, partMask(f))
	}
	cards := []impl.Card{}
	for i := range n {
		m := lessOf(randomMask(r), parts)
		for _, f := range list {
			switch r.Intn(8) {
			case 0:
			case 1:
				m = joined(m, met(damagedMask(r, f), partMask(f)))
			default:
				m = joined(m, codeMask(f, r.Int63n(min(int64(few), valuesOf(f.Kind, int64(f.Size))))))
			}
		}
		cards = append(cards, impl.Card{Name: nameOf(i), Notches: m})
	}
	return cards
}

// cardsWith makes cards with the values of rows, -1 for an empty field, and -2 for one with what stands for no value.
func cardsWith(list []impl.Field, rows ...[]int64) []impl.Card {
	cards := []impl.Card{}
	for i, row := range rows {
		var m impl.Mask
		for k, value := range row {
			switch value {
			case -1:
			case -2:
				m = joined(m, tornPart(list[k]))
			default:
				m = joined(m, codeMask(list[k], value))
			}
		}
		cards = append(cards, impl.Card{Name: nameOf(i), Notches: m})
	}
	return cards
}

// tornPart tells notches in a field that stand for no value, but for the fields that have none such.
func tornPart(f impl.Field) impl.Mask {
	if f.Kind == impl.KdPairs {
		return maskOf(int64(f.Start))
	}
	part := partMask(f)
	if f.Kind == impl.KdBinary && len(holesIn(part))%2 == 1 { // an even number of notches
		part = maskOf(int64(f.Start), int64(f.Start)+1)
	}
	return part
}

// smallScheme has n fields with the values 0 and 1, which may be empty or torn as well.
func smallScheme(n int) []impl.Field {
	var list []impl.Field
	for i := range n {
		list = append(list, impl.Field{Name: "f" + string(rune('a'+i)), Kind: impl.KdDirect, Start: int16(3 * i), Size: 2})
	}
	return list
}

// smallTables are all tables of n cards with two fields of two values; f gets each of them.
func smallTables(n int, f func(list []impl.Field, cards []impl.Card)) {
	list := smallScheme(2)
	rows := make([][]int64, n)
	count := 1
	for range n {
		count *= 16
	}
	for i := range count {
		for k := range rows {
			code := i >> (4 * k) & 15
			rows[k] = []int64{int64(code%4) - 2, int64(code/4) - 2}
		}
		f(list, cardsWith(list, rows...))
	}
}

// manyCards returns n cards which have the digits of their numbers in the base 2 in six fields, and nothing else.
func manyCards(n int) ([]impl.Field, []impl.Card) {
	list := smallScheme(6)
	var rows [][]int64
	for i := range n {
		var row []int64
		for k := range list {
			row = append(row, int64(i>>k&1))
		}
		rows = append(rows, row)
	}
	return list, cardsWith(list, rows...)
}

// pile is the cards of a knot that is not planned yet, and the fields that have been asked on the way to it.
type pile struct {
	cards []int64
	asked []int
}

// planIn plans a tree as the document tells it.
func planIn(list []impl.Field, cards []impl.Card, most int64) []impl.Knot {
	piles := []pile{{}}
	for i := range cards {
		piles[0].cards = append(piles[0].cards, int64(i))
	}
	tree := []impl.Knot{}
	for at := 0; at < len(piles); at++ {
		now := piles[at]
		field := fieldToAsk(list, cards, now)
		if int64(len(now.cards)) <= most || field < 0 {
			tree = append(tree, impl.Knot{Field: -1, Cards: now.cards})
			continue
		}
		k := impl.Knot{Field: int16(field)}
		for _, value := range differentIn(columnOf(list[field], cards, now.cards)) {
			k.Values = append(k.Values, value)
			k.Next = append(k.Next, int16(len(piles)))
			next := pile{asked: append(slices.Clone(now.asked), field)}
			for _, i := range now.cards {
				if valueAt(list[field], cards[i].Notches) == value {
					next.cards = append(next.cards, i)
				}
			}
			piles = append(piles, next)
		}
		tree = append(tree, k)
	}
	return tree
}

// columnOf tells the values of some cards in one field.
func columnOf(f impl.Field, cards []impl.Card, some []int64) []int64 {
	var column []int64
	for _, i := range some {
		column = append(column, valueAt(f, cards[i].Notches))
	}
	return column
}

// fieldToAsk tells the field that a pile is asked for, -1 if there is none.
func fieldToAsk(list []impl.Field, cards []impl.Card, now pile) int {
	best, least := -1, int64(0)
	for i, f := range list {
		column := columnOf(f, cards, now.cards)
		if slices.Contains(now.asked, i) || len(differentIn(column)) < 2 {
			continue
		}
		if split := splitIn(column); best < 0 || split < least {
			best, least = i, split
		}
	}
	return best
}

// wayIn tells the leaf to which values lead from a knot on, how many questions there are, and the code of what is wrong.
func wayIn(tree []impl.Knot, at int, values []int64) (int, int64, int64) {
	k := tree[at]
	if k.Field == -1 {
		return at, 0, impl.OK
	}
	if int(k.Field) >= len(values) {
		return 0, 0, impl.ErrRange
	}
	i := slices.Index(k.Values, values[k.Field])
	if i < 0 {
		return 0, 0, impl.ErrNotFound
	}
	end, asked, code := wayIn(tree, int(k.Next[i]), values)
	if code != impl.OK {
		return 0, 0, code
	}
	return end, asked + 1, code
}

// leadsIn tells whether each card comes to the one leaf that has it, and no leaf has anything else.
func leadsIn(list []impl.Field, cards []impl.Card, tree []impl.Knot) bool {
	ends := []int{}
	for _, c := range cards {
		end, _, code := wayIn(tree, 0, rowIn(list, c))
		if code != impl.OK {
			return false
		}
		ends = append(ends, end)
	}
	for at, k := range tree {
		for i := range int64(100) {
			if slices.Contains(k.Cards, i) != (i < int64(len(ends)) && ends[i] == at) {
				return false
			}
		}
	}
	return true
}

// depthIn tells how many questions there are on the way to a knot: from the knot up to the first one.
func depthIn(tree []impl.Knot, at int) int64 {
	for from, k := range tree {
		if slices.Contains(k.Next, int16(at)) {
			return depthIn(tree, from) + 1
		}
	}
	return 0
}

// isRisingIn tells whether each number is greater than all before it, and between two bounds.
func isRisingIn(list []int64, least, most int64) bool {
	for i, x := range list {
		if x < least || x > most || i > 0 && x <= list[i-1] {
			return false
		}
	}
	return true
}

// isTreeIn tells whether a tree is valid.
func isTreeIn(tree []impl.Knot) bool {
	if len(tree) == 0 || len(tree) > 120 {
		return false
	}
	led := make([]int, len(tree))
	for at, k := range tree {
		switch {
		case k.Field < -1 || k.Field > 11:
			return false
		case k.Field == -1:
			if len(k.Values) > 0 || len(k.Next) > 0 || !isRisingIn(k.Cards, 0, 59) {
				return false
			}
		default:
			if len(k.Cards) > 0 || len(k.Values) == 0 || len(k.Values) != len(k.Next) || !isRisingIn(k.Values, -2, 1<<63-1) {
				return false
			}
		}
		for _, next := range k.Next {
			if int(next) <= at || int(next) >= len(tree) {
				return false
			}
			led[next]++
		}
	}
	for at, times := range led {
		if at > 0 && times != 1 {
			return false
		}
	}
	return true
}

// treeTextIn tells the text of a valid tree.
func treeTextIn(tree []impl.Knot) string {
	text := ""
	for _, k := range tree {
		if k.Field == -1 {
			text += "leaf"
			for _, card := range k.Cards {
				text += " " + strconv.Itoa(int(card))
			}
		} else {
			text += "ask " + strconv.Itoa(int(k.Field))
			for i, value := range k.Values {
				word := strconv.FormatInt(value, 10)
				word = strings.ReplaceAll(strings.ReplaceAll(word, "-1", "empty"), "-2", "torn")
				text += " " + word + " " + strconv.Itoa(int(k.Next[i]))
			}
		}
		text += "\n"
	}
	return text
}

func leafOf(cards ...int64) impl.Knot { return impl.Knot{Field: -1, Cards: cards} }

// askOf makes a knot that asks for a field, with pairs of a value and an index.
func askOf(field int16, pairs ...int64) impl.Knot {
	k := impl.Knot{Field: field}
	for i := 0; i+1 < len(pairs); i += 2 {
		k.Values = append(k.Values, pairs[i])
		k.Next = append(k.Next, int16(pairs[i+1]))
	}
	return k
}

// starTree has n knots, all but the first one next to it.
func starTree(n int) []impl.Knot {
	tree := []impl.Knot{{Field: 11}}
	for i := 1; i < n; i++ {
		tree[0].Values = append(tree[0].Values, int64(i)-3)
		tree[0].Next = append(tree[0].Next, int16(i))
		tree = append(tree, leafOf(int64(i)%60))
	}
	return tree
}

// chainTree has n knots behind each other, with one leaf.
func chainTree(n int) []impl.Knot {
	tree := []impl.Knot{}
	for i := 1; i < n; i++ {
		tree = append(tree, askOf(int16(i%12), int64(i%5)-2, int64(i)))
	}
	return append(tree, leafOf(0, 59))
}

// randomTree returns a valid tree of n knots, whose leaves have any cards.
func randomTree(r *rand.Rand, n int) []impl.Knot {
	tree := make([]impl.Knot, n)
	for i := range tree {
		tree[i].Field = -1
	}
	for i := 1; i < n; i++ {
		k := &tree[r.Intn(i)]
		if r.Intn(2) == 0 {
			k = &tree[max(0, i-1-r.Intn(3))]
		}
		if k.Field == -1 {
			k.Field = int16(r.Intn(5))
			if r.Intn(9) == 0 {
				k.Field = int16(r.Intn(12))
			}
		}
		k.Next = append(k.Next, int16(i))
	}
	for i := range tree {
		k := &tree[i]
		value := int64(-3)
		r.Shuffle(len(k.Next), func(a, b int) { k.Next[a], k.Next[b] = k.Next[b], k.Next[a] })
		for range k.Next {
			value += 1 + r.Int63n(2)
			k.Values = append(k.Values, value)
		}
		for card := range int64(60) {
			if k.Field == -1 && r.Intn(20) == 0 {
				k.Cards = append(k.Cards, card)
			}
		}
	}
	return tree
}

// goodTrees are valid.
func goodTrees() [][]impl.Knot {
	all := make([]int64, 60)
	for i := range all {
		all[i] = int64(i)
	}
	list := [][]impl.Knot{
		{leafOf()},
		{{Field: -1, Values: []int64{}, Next: []int16{}, Cards: []int64{}}},
		{leafOf(0)},
		{leafOf(59)},
		{leafOf(all...)},
		{askOf(0, -2, 1), leafOf()},
		{askOf(11, -2, 3, -1, 2, 0, 1), leafOf(2), leafOf(1), leafOf(0)},
		{askOf(3, 1<<63-2, 2, 1<<63-1, 1), leafOf(7), leafOf(7)},
		{askOf(0, 1, 1, 2, 2), leafOf(0), leafOf(1)},
		{askOf(1, -1, 1, 5, 2), askOf(0, 0, 3), leafOf(3, 9), askOf(1, -1, 4), leafOf(0, 30)},
		starTree(119), starTree(120), chainTree(119), chainTree(120),
	}
	r := rand.New(rand.NewSource(200))
	for range 60 {
		list = append(list, randomTree(r, 1+r.Intn(120)))
	}
	return list
}

// wrongTrees are almost valid.
func wrongTrees() [][]impl.Knot {
	return [][]impl.Knot{
		nil,
		{},
		{{}},
		{{Field: -2}},
		{{Field: -2, Cards: []int64{0}}},
		{{Field: -32768}},
		{askOf(12, 0, 1), leafOf()},
		{askOf(32767, 0, 1), leafOf()},
		{askOf(-2, 0, 1), leafOf()},
		{askOf(-1, 0, 1), leafOf()}, // a leaf with values
		{{Field: -1, Values: []int64{0}}},
		{{Field: -1, Next: []int16{1}}, leafOf()},
		{{Field: -1, Values: []int64{3}, Cards: []int64{1}}},
		{leafOf(60)}, {leafOf(-1)}, {leafOf(0, 60)}, {leafOf(1, 0)}, {leafOf(3, 3)}, {leafOf(0, 2, 1)}, {leafOf(1 << 32)}, {leafOf(-1 << 63)}, {leafOf(1<<63 - 1)},
		{{Field: 0, Values: []int64{0}, Next: []int16{1}, Cards: []int64{0}}, leafOf()}, // an asking knot with cards
		{{Field: 0}},
		{{Field: 0, Cards: []int64{0}}},
		{askOf(0), leafOf()},
		{{Field: 0, Values: []int64{0, 1}, Next: []int16{1}}, leafOf()},
		{{Field: 0, Values: []int64{0}, Next: []int16{1, 2}}, leafOf(), leafOf()},
		{{Field: 0, Values: []int64{0, 1}}},
		{{Field: 0, Next: []int16{1}}, leafOf()},
		{askOf(0, -3, 1), leafOf()}, {askOf(0, -1<<63, 1), leafOf()}, {askOf(0, -3, 1, 0, 2), leafOf(), leafOf()},
		{askOf(0, 1, 1, 1, 2), leafOf(), leafOf()}, {askOf(0, 2, 1, 1, 2), leafOf(), leafOf()}, {askOf(0, -1, 1, -2, 2), leafOf(), leafOf()}, {askOf(0, 0, 1, 5, 2, 3, 3), leafOf(), leafOf(), leafOf()},
		{askOf(0, 0, 0)}, {askOf(0, 0, 0), leafOf()}, // Next of itself
		{askOf(0, 0, 1), askOf(0, 0, 1)},
		{askOf(0, 0, 1), askOf(0, 0, 0)},
		{askOf(0, 0, 1)}, {askOf(0, 0, 2), leafOf()}, {askOf(0, 0, -1), leafOf()}, {askOf(0, 0, 32767), leafOf()}, {askOf(0, 0, -32768), leafOf()}, {askOf(0, 0, 120), leafOf()},
		{leafOf(), leafOf()},                                                        // Next of none
		{askOf(0, 0, 1), leafOf(), leafOf()},                                        // Next of none
		{askOf(0, 0, 2), leafOf(), leafOf()},                                        // Next of none
		{askOf(0, 0, 1, 1, 1), leafOf()},                                            // Next of two values
		{askOf(0, 0, 1, 1, 1), leafOf(), leafOf()},                                  // Next of two values, and of none
		{askOf(0, 0, 1, 1, 2), askOf(1, 0, 2), leafOf()},                            // Next of two
		{askOf(0, 0, 1, 1, 2), askOf(1, 0, 3), askOf(1, 0, 3), leafOf()},            // Next of two
		{askOf(0, 0, 1, 1, 3), askOf(1, 0, 3), leafOf(), leafOf()},                  // Next of two, and of none
		{askOf(0, 0, 2), askOf(1, 0, 3), leafOf(), leafOf()},                        // knots that are not reached
		{askOf(0, 0, 2, 1, 3), leafOf(), askOf(1, 0, 1), leafOf()},                  // Next that is less
		{askOf(0, 0, 1, 1, 2), askOf(5, 0, 3), leafOf(), leafOf(4, 2)},              // cards out of order at the end
		{askOf(0, 0, 1, 1, 2), leafOf(1), {Field: -1, Next: []int16{3}}, leafOf(2)}, // a leaf that leads on
		{askOf(0, 0, 1, 1, 2), leafOf(1), {Field: -1, Values: []int64{3}}},          // a leaf with a value
		{askOf(0, 0, 1, 1, 2), leafOf(1), {Field: 3, Cards: []int64{3}}},            // a question without values
		{askOf(0, 0, 1, 1, 2), leafOf(1), askOf(12, 0, 3), leafOf()},                // a field that is none
		append(slices.Repeat([]impl.Knot{leafOf()}, 119), leafOf()),                 // many that are not reached
		starTree(121), chainTree(121), starTree(5000), chainTree(300), starTree(60000),
	}
}
