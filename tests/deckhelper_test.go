package tests

import (
	"math/rand"
	"sort"
	"strconv"

	"loop.example/g01261/impl"
)

// fullMask has all holes.
var fullMask = impl.Mask{^uint64(0), 0xffffffff}

// nameOf tells a name for the card with an index, another one for each index.
func nameOf(i int) string {
	return "c" + string(rune('a'+i/26%26)) + string(rune('a'+i%26))
}

// deckOf makes a deck of cards with some notches.
func deckOf(masks ...impl.Mask) []impl.Card {
	deck := []impl.Card{}
	for i, m := range masks {
		deck = append(deck, impl.Card{Name: nameOf(i), Notches: m})
	}
	return deck
}

// randomDeck returns a valid deck of n cards.
func randomDeck(r *rand.Rand, n int) []impl.Card {
	masks := make([]impl.Mask, n)
	for i := range masks {
		masks[i] = randomMask(r)
		if i > 0 && r.Intn(4) == 0 {
			masks[i] = masks[r.Intn(i)]
		}
	}
	return deckOf(masks...)
}

// deckWith returns a deck of n cards some of which keep values in a field, some nothing, and some what stands for no value.
func deckWith(r *rand.Rand, f impl.Field, n int) []impl.Card {
	deck := randomDeck(r, n)
	part := partMask(f)
	for i := range deck {
		m := lessOf(deck[i].Notches, part)
		switch r.Intn(6) {
		case 0:
		case 1:
			m = deck[i].Notches
		default:
			code := maskOf(codeOf(f, r.Int63n(min(6, valuesOf(f.Kind, int64(f.Size)))))...)
			m = impl.Mask{m[0] | code[0], m[1] | code[1]}
		}
		deck[i].Notches = m
	}
	return deck
}

// partMask tells the holes of a field without the help of the package.
func partMask(f impl.Field) impl.Mask {
	var holes []int64
	for i := range widthOf(f.Kind, int64(f.Size)) {
		holes = append(holes, int64(f.Start)+i)
	}
	return maskOf(holes...)
}

// lessOf tells what is in m, and not in n.
func lessOf(m, n impl.Mask) impl.Mask { return impl.Mask{m[0] &^ n[0], m[1] &^ n[1]} }

// isNotched tells whether a hole is in a mask.
func isNotched(m impl.Mask, hole int64) bool { return m[hole/64]>>(hole%64)&1 == 1 }

// orderOf tells the holes whose passes sort by a field, as the document lists them.
func orderOf(f impl.Field) []int64 {
	holes := holesIn(partMask(f))
	if f.Kind == impl.KdBinary {
		holes = holes[:len(holes)-1]
	}
	if f.Kind != impl.KdDirect {
		sort.Slice(holes, func(i, k int) bool { return holes[i] > holes[k] })
	}
	return holes
}

// keyIn tells the key of a mask from its digits in the base 2, written as a text.
func keyIn(f impl.Field, m impl.Mask) int64 {
	text := ""
	for _, hole := range orderOf(f) {
		if isNotched(m, hole) {
			text = "1" + text
		} else {
			text = "0" + text
		}
	}
	key, err := strconv.ParseInt(text, 2, 64)
	if err != nil {
		panic(err)
	}
	return key
}

// afterPass tells the deck behind a pass, and how many cards drop: a stable sort by what drops.
func afterPass(deck []impl.Card, hole int64) ([]impl.Card, int64) {
	after := append([]impl.Card{}, deck...)
	sort.SliceStable(after, func(i, k int) bool {
		return !isNotched(after[i].Notches, hole) && isNotched(after[k].Notches, hole)
	})
	dropped := int64(0)
	for _, c := range deck {
		if isNotched(c.Notches, hole) {
			dropped++
		}
	}
	return after, dropped
}

// sortedBy tells a deck in the order of its keys, equal ones as they were.
func sortedBy(deck []impl.Card, f impl.Field) []impl.Card {
	after := append([]impl.Card{}, deck...)
	sort.SliceStable(after, func(i, k int) bool { return keyIn(f, after[i].Notches) < keyIn(f, after[k].Notches) })
	return after
}

// fieldsAtPlaces has fields of each kind and Size at both ends, in the middle, and over the border between the two numbers of a mask.
func fieldsAtPlaces() []impl.Field {
	var list []impl.Field
	for _, f := range allForms() {
		width := int16(widthOf(f.Kind, int64(f.Size)))
		for _, start := range []int16{0, 10, 64 - (width+1)/2, 64, 96 - width} {
			f.Start = start
			list = append(list, f)
		}
	}
	return list
}

// goodDecks are valid.
func goodDecks() [][]impl.Card {
	r := rand.New(rand.NewSource(20))
	return [][]impl.Card{
		nil,
		{},
		{{Name: "a"}},
		{{Name: "abcdefghijklmnop", Notches: fullMask}},
		{{Name: "ant", Notches: maskOf(3)}, {Name: "antz", Notches: maskOf(3)}, {Name: "an", Notches: maskOf(3)}},
		deckOf(maskOf(5, 9), maskOf(5), maskOf(9)),
		randomDeck(r, 7),
		randomDeck(r, impl.MaxDeck-1),
		randomDeck(r, impl.MaxDeck),
	}
}

// wrongDecks are decks that are almost valid.
func wrongDecks() [][]impl.Card {
	r := rand.New(rand.NewSource(21))
	twice := randomDeck(r, 40)
	twice[39].Name = twice[0].Name
	full := randomDeck(r, impl.MaxDeck)
	full[79].Name = full[78].Name
	list := [][]impl.Card{
		randomDeck(r, impl.MaxDeck+1),
		randomDeck(r, 600),
		make([]impl.Card, impl.MaxDeck+1),
		{{Name: "ant", Notches: maskOf(3)}, {Name: "ant", Notches: maskOf(4)}},
		{{Name: "ant", Notches: maskOf(3)}, {Name: "ant", Notches: maskOf(3)}},
		{{Name: "ant"}, {Name: "bee"}, {Name: "ant"}},
		twice,
		full,
	}
	for _, c := range wrongCards() {
		good := impl.Card{Name: "good", Notches: maskOf(7)}
		list = append(list, []impl.Card{c}, []impl.Card{good, c}, []impl.Card{c, good})
	}
	return list
}

// wrongQueries are queries that are almost valid.
func wrongQueries() []impl.Query {
	list := []impl.Query{
		{All: maskOf(3), None: maskOf(3)},
		{All: maskOf(3, 70), None: maskOf(70, 71)},
		{All: maskOf(95), None: maskOf(0, 95)},
		{All: fullMask, None: maskOf(63)},
		{All: fullMask, None: fullMask},
	}
	for _, m := range invalidMasks() {
		list = append(list, impl.Query{All: m}, impl.Query{None: m}, impl.Query{All: m, None: m}, impl.Query{All: m, None: maskOf(1)}, impl.Query{All: maskOf(1), None: m})
	}
	return list
}

// randomQuery returns a valid query with a few holes.
func randomQuery(r *rand.Rand) impl.Query {
	var q impl.Query
	for range r.Intn(4) {
		m := maskOf(r.Int63n(96))
		if r.Intn(2) == 0 {
			q.All = impl.Mask{q.All[0] | m[0], q.All[1] | m[1]}
		} else {
			q.None = impl.Mask{q.None[0] | m[0], q.None[1] | m[1]}
		}
	}
	q.None = lessOf(q.None, q.All)
	return q
}

// dropsIn tells hole by hole whether a query drops a card with some notches.
func dropsIn(q impl.Query, m impl.Mask) bool {
	for hole := range int64(96) {
		if isNotched(q.All, hole) && !isNotched(m, hole) || isNotched(q.None, hole) && isNotched(m, hole) {
			return false
		}
	}
	return true
}
