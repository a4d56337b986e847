package tests

import (
	"math/rand"
	"slices"
	"testing"

	"loop.example/g01261/impl"
)

// madeDeck makes n cards of random values, some of which are empty, and tells the values.
func madeDeck(t *testing.T, r *rand.Rand, list []impl.Field, n int) ([]impl.Card, [][]int64) {
	t.Helper()
	deck, rows := []impl.Card{}, [][]int64{}
	for i := range n {
		row := []int64{}
		for _, f := range list {
			// Few values, so that several cards have the same one.
			row = append(row, r.Int63n(min(5, valuesOf(f.Kind, int64(f.Size)))+1)-1)
		}
		c, code := impl.MakeCard(list, nameOf(i), row)
		sameOf(t, code, int64(impl.OK), "MakeCard", list, row)
		deck, rows = append(deck, c), append(rows, row)
	}
	return deck, rows
}

// checkValuesIn checks that the values of which cards have been made come out of them.
func checkValuesIn(t *testing.T, list []impl.Field, deck []impl.Card, rows [][]int64) {
	t.Helper()
	for i, c := range deck {
		values, code := impl.ValuesOf(list, c)
		same(t, label("ValuesOf", c), values, rows[i])
		sameOf(t, code, int64(impl.OK), "ValuesOf", c)
	}
}

// checkSortedBy checks that a deck that is sorted by passes is in order, and has the same cards.
func checkSortedBy(t *testing.T, deck []impl.Card, f impl.Field) []impl.Card {
	t.Helper()
	sorted, code := impl.SortDeck(deck, f)
	sameOf(t, code, int64(impl.OK), "SortDeck", deck, f)
	same(t, label("SortDeck", f), sorted, sortedBy(deck, f))
	inOrder, code := impl.IsSorted(sorted, f)
	sameOf(t, []any{inOrder, code}, []any{true, int64(impl.OK)}, "IsSorted", sorted, f)
	alike, code := impl.SameCards(deck, sorted)
	sameOf(t, []any{alike, code}, []any{true, int64(impl.OK)}, "SameCards", deck, sorted)
	one, _ := impl.CheckOfDeck(deck)
	other, _ := impl.CheckOfDeck(sorted)
	sameOf(t, one, other, "CheckOfDeck", deck, sorted)
	edits, code := impl.EditsBetween(deck, sorted)
	sameOf(t, []int64{int64(len(edits)), code}, []int64{0, impl.OK}, "EditsBetween", deck, sorted)
	return sorted
}

// checkAsked checks that the query for a value has an answer with just the cards that were made of it, which is accepted.
func checkAsked(t *testing.T, deck []impl.Card, rows [][]int64, field int, q impl.Query, value int64) {
	t.Helper()
	want := []int64{}
	for i, row := range rows {
		if row[field] == value {
			want = append(want, int64(i))
		}
	}
	a, code := impl.MakeAnswer(deck, q)
	sameOf(t, code, int64(impl.OK), "MakeAnswer", deck, q)
	same(t, label("cards with", value), a.In, want)
	same(t, "accepted", checkAnswer(t, deck, a), int64(len(deck)))
	// Without one of the cards that drop the answer is not accepted any more.
	if len(a.In) > 0 {
		a.In = a.In[1:]
		same(t, "a card left out", checkAnswer(t, deck, a), want[0])
	}
}

func schemesToMake() [][]impl.Field {
	return [][]impl.Field{someScheme(), tableScheme(), manyFields(), smallScheme(6), {{Name: "f", Kind: impl.KdSum, Start: 60, Size: 3}}, {{Name: "f", Kind: impl.KdPairs, Start: 76, Size: 4}}}
}

func TestPromise18CardsSortedAndAsked(t *testing.T) {
	r := rand.New(rand.NewSource(370))
	for _, list := range schemesToMake() {
		for _, n := range []int{0, 1, 2, 17, impl.MaxDeck} {
			deck, rows := madeDeck(t, r, list, n)
			checkValuesIn(t, list, deck, rows)
			read, code := impl.ReadDeck(impl.DeckText(deck))
			same(t, "ReadDeck", read, deck)
			sameOf(t, code, int64(impl.OK), "ReadDeck", deck)
			for k, f := range list {
				sorted := checkSortedBy(t, deck, f)
				for value := range min(5, valuesOf(f.Kind, int64(f.Size))) {
					q, code := impl.QueryFor(f, value)
					sameOf(t, code, int64(impl.OK), "QueryFor", f, value)
					checkAsked(t, deck, rows, k, q, value)
					checkMade(t, sorted, q)
				}
			}
		}
	}
}

// A deck some of whose cards get other values, come or go is made by edits of the one it was, and back; the values come out of both.
func TestPromise18EditedCards(t *testing.T) {
	r := rand.New(rand.NewSource(371))
	tooMany := 0
	for _, list := range schemesToMake() {
		for range 60 {
			deck, rows := madeDeck(t, r, list, r.Intn(40))
			other, others := slices.Clone(deck), slices.Clone(rows)
			for i := range deck {
				if k := r.Intn(3 * len(list)); k < len(list) {
					value := r.Int63n(valuesOf(list[k].Kind, int64(list[k].Size)))
					other[i], _ = impl.PutField(other[i], list[k], value)
					others[i] = slices.Clone(rows[i])
					others[i][k] = value
				}
			}
			from, to := r.Intn(len(deck)+1), r.Intn(len(deck)+1)
			if from > to {
				from, to = to, from
			}
			deck, rows, other, others = deck[from:], rows[from:], other[:to], others[:to]
			edits, code := impl.EditsBetween(deck, other)
			if code == impl.ErrLimit {
				tooMany++
				continue
			}
			sameOf(t, code, int64(impl.OK), "EditsBetween", deck, other)
			read, _ := impl.ReadEdits(impl.EditsText(edits))
			made, _, code := impl.ApplyEdits(deck, read)
			sameOf(t, code, int64(impl.OK), "ApplyEdits", deck, read)
			checkValuesByName(t, list, made, other, others)
			undo, _ := impl.UndoEdits(read)
			back, _, code := impl.ApplyEdits(made, undo)
			sameOf(t, code, int64(impl.OK), "undone", deck, read)
			checkValuesByName(t, list, back, deck, rows)
		}
	}
	if tooMany > 100 {
		t.Errorf("%d decks take too many edits", tooMany)
	}
}

// checkValuesByName checks that a deck has the cards of another one, whose values are told, in any order.
func checkValuesByName(t *testing.T, list []impl.Field, deck, as []impl.Card, rows [][]int64) {
	t.Helper()
	sameOf(t, len(deck), len(as), "cards", deck, as)
	for i, c := range as {
		at, code := impl.FindCard(deck, c.Name)
		sameOf(t, code, int64(impl.OK), "FindCard", deck, c)
		values, code := impl.ValuesOf(list, deck[at])
		same(t, label("ValuesOf", deck[at]), values, rows[i])
		sameOf(t, code, int64(impl.OK), "ValuesOf", deck[at])
	}
}

// Wear of a deck is what edits between it and the worn one tell; undone, and repaired by copies, the values come out again.
func TestPromise18WornCards(t *testing.T) {
	r := rand.New(rand.NewSource(372))
	list := someScheme()
	for range 60 {
		deck, rows := madeDeck(t, r, list, 1+r.Intn(20))
		worn := slices.Clone(deck)
		holes := int64(0)
		for i, c := range deck {
			var w impl.Wear
			worn[i], w, _, _ = impl.ChanceWear(c, r.Uint32(), 20, 20)
			n, _ := impl.CountWear(w)
			far, _ := impl.DistanceOf(c.Notches, worn[i].Notches)
			same(t, "DistanceOf", far, n)
			holes += n
		}
		edits, code := impl.EditsBetween(deck, worn)
		sameOf(t, []int64{int64(len(edits)), code}, []int64{holes, impl.OK}, "EditsBetween", deck, worn)
		made, _, _ := impl.ApplyEdits(deck, edits)
		same(t, "ApplyEdits", made, worn)
		undo, _ := impl.UndoEdits(edits)
		back, _, _ := impl.ApplyEdits(worn, undo)
		same(t, "undone", back, deck)
		checkValuesIn(t, list, back, rows)
		doubts, _ := impl.DoubtsOf(list, worn)
		for _, x := range doubts {
			c, _, code := impl.RepairCard(list, worn[x.Card], []impl.Card{deck[x.Card]})
			value, fault := impl.DecodeField(list[x.Field], c.Notches)
			if rows[x.Card][x.Field] >= 0 {
				sameOf(t, []int64{value, fault, code}, []int64{rows[x.Card][x.Field], impl.OK, impl.OK}, "RepairCard", worn[x.Card])
			}
		}
	}
}

// Words are found by queries whose answers are accepted: each card that has a word drops, and what drops falsely is counted.
func TestPromise18WordsAsked(t *testing.T) {
	r := rand.New(rand.NewSource(373))
	mix := impl.Mix{Start: 50, Size: 24, Per: 3}
	for range 40 {
		lot := randomLot(r, 1+r.Intn(30), 5)
		masks, code := impl.MixLot(mix, lot)
		sameOf(t, code, int64(impl.OK), "MixLot", lot)
		deck := deckOf(masks...)
		for _, word := range append(lot[0], "ant") {
			holes, _ := impl.WordHoles(mix, word)
			a := checkMade(t, deck, impl.Query{All: holes})
			right, _ := impl.TrueOf(lot, []string{word})
			wrong, _ := impl.FalseOf(mix, lot, []string{word})
			all := slices.Concat(right, wrong)
			slices.Sort(all)
			same(t, label("cards with", word), a.In, all)
		}
	}
}

// A tree leads each card to the leaf in which it is; so it does for the deck that edits have made.
func TestPromise18PlannedCards(t *testing.T) {
	r := rand.New(rand.NewSource(374))
	list := tableScheme()
	for range 40 {
		deck, _ := madeDeck(t, r, list, r.Intn(30))
		other, _ := madeDeck(t, r, list, r.Intn(30))
		if edits, code := impl.EditsBetween(deck, other); code == impl.OK {
			deck, _, _ = impl.ApplyEdits(deck, edits)
		}
		tree, code := impl.PlanTree(list, deck, 1)
		sameOf(t, code, int64(impl.OK), "PlanTree", deck)
		for i, c := range deck {
			values, _ := impl.ValuesOf(list, c)
			leaf, _, code := impl.WalkTree(tree, values)
			sameOf(t, []any{slices.Contains(leaf, int64(i)), code}, []any{true, int64(impl.OK)}, "WalkTree", tree, values)
		}
	}
}

// Both sides of a merge put values into fields of cards of their own; the values of both come out.
func TestPromise18MergedCards(t *testing.T) {
	r := rand.New(rand.NewSource(375))
	list := someScheme()
	for range 100 {
		base, rows := madeDeck(t, r, list, 20)
		a, b := slices.Clone(base), slices.Clone(base)
		for i := range base {
			k := r.Intn(len(list))
			value := r.Int63n(valuesOf(list[k].Kind, int64(list[k].Size)))
			side := a
			if i%2 == 1 {
				side = b
			}
			side[i], _ = impl.PutField(side[i], list[k], value)
			rows[i][k] = value
		}
		merged, code := impl.MergeThree(base, a, shuffled(r, b))
		sameOf(t, code, int64(impl.OK), "MergeThree", base, a, b)
		checkValuesIn(t, list, merged, rows)
	}
}
