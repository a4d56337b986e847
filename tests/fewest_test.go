package tests

import (
	"math/rand"
	"slices"
	"testing"

	"loop.example/g01261/impl"
)

// dropsJust tells whether needles through all of some holes drop just the wanted cards.
func dropsJust(deck []impl.Card, wanted []int64, m impl.Mask) bool {
	for i, c := range deck {
		if (lessOf(m, c.Notches) == impl.Mask{}) != slices.Contains(wanted, int64(i)) {
			return false
		}
	}
	return true
}

// fewestIn goes through all lists of at most three of all holes, in loops within each other.
func fewestIn(deck []impl.Card, wanted []int64) (impl.Mask, bool) {
	fits := func(holes ...int64) bool { return dropsJust(deck, wanted, maskOf(holes...)) }
	if fits() {
		return impl.Mask{}, true
	}
	for a := range int64(96) {
		if fits(a) {
			return maskOf(a), true
		}
	}
	for a := range int64(96) {
		for b := a + 1; b < 96; b++ {
			if fits(a, b) {
				return maskOf(a, b), true
			}
		}
	}
	for a := range int64(96) {
		for b := a + 1; b < 96; b++ {
			for c := b + 1; c < 96; c++ {
				if fits(a, b, c) {
					return maskOf(a, b, c), true
				}
			}
		}
	}
	return impl.Mask{}, false
}

// checkFewest compares with all lists of holes, and tells how many needles there are, or -1.
func checkFewest(t *testing.T, deck []impl.Card, wanted []int64) int {
	t.Helper()
	want, found := fewestIn(deck, wanted)
	got, code := impl.FewestNeedles(deck, wanted)
	if !found {
		same(t, label("FewestNeedles", deck, wanted), []any{got, code}, []any{impl.Mask{}, int64(impl.ErrNotFound)})
		return -1
	}
	same(t, label("FewestNeedles", deck, wanted), []any{holesIn(got), code}, []any{holesIn(want), int64(impl.OK)})
	return len(holesIn(want))
}

// The fewest needles for random decks, with the cards that some holes drop and with any cards.
func TestPromise5FewestNeedles(t *testing.T) {
	r := rand.New(rand.NewSource(50))
	seen := map[int]int{}
	for range 150 {
		var few impl.Mask
		for range 3 + r.Intn(6) {
			m := maskOf(r.Int63n(96))
			few = impl.Mask{few[0] | m[0], few[1] | m[1]}
		}
		deck := randomDeck(r, 2+r.Intn(40))
		for i := range deck { // only a few holes are told apart, the others are as in no card, or as in all
			deck[i].Notches = impl.Mask{deck[i].Notches[0] & few[0], deck[i].Notches[1] & few[1]}
		}
		holes := holesIn(few)
		r.Shuffle(len(holes), func(i, k int) { holes[i], holes[k] = holes[k], holes[i] })
		wanted := answerIn(deck, impl.Query{All: maskOf(holes[:min(len(holes), r.Intn(4))]...)})
		if r.Intn(5) == 0 && len(wanted) > 0 {
			wanted = slices.Delete(wanted, 0, 1)
		}
		seen[checkFewest(t, deck, wanted)]++
	}
	for n := -1; n <= 3; n++ {
		if seen[n] < 5 {
			t.Errorf("answers with %d needles: %d", n, seen[n])
		}
	}
}

func TestPromise5FewestNeedlesOfAFullDeck(t *testing.T) {
	r := rand.New(rand.NewSource(51))
	deck := randomDeck(r, impl.MaxDeck)
	for _, wanted := range [][]int64{{}, {0}, {79}, {3, 40}, answerIn(deck, impl.Query{All: maskOf(95)}), answerIn(deck, impl.Query{All: maskOf(0, 64)}), answerIn(deck, impl.Query{All: maskOf(1, 63, 90)})} {
		checkFewest(t, deck, wanted)
	}
}

func TestPromise5FewestNeedlesByHand(t *testing.T) {
	without := func(holes ...int64) impl.Mask { return lessOf(fullMask, maskOf(holes...)) }
	for _, x := range []struct {
		what   string
		deck   []impl.Card
		wanted []int64
		holes  []int64
		code   int64
	}{
		{"the example", deckOf(maskOf(5, 9), maskOf(5), maskOf(9)), []int64{0}, []int64{5, 9}, impl.OK},
		{"the empty deck", nil, nil, nil, impl.OK},
		{"all cards", deckOf(maskOf(), maskOf(3)), []int64{0, 1}, nil, impl.OK},
		{"no cards, and a hole that none has", deckOf(maskOf(0, 1, 3), maskOf(2)), nil, []int64{4}, impl.OK},
		{"no cards, and the last hole alone that none has", deckOf(without(95), without(94, 95)), nil, []int64{95}, impl.OK},
		{"no cards, and two holes that none has together", deckOf(without(70), without(20), without(3, 20)), nil, []int64{20, 70}, impl.OK},
		{"no cards, and one has all holes", deckOf(fullMask), nil, nil, impl.ErrNotFound},
		{"a card with all holes", deckOf(fullMask, without(95)), []int64{0}, []int64{95}, impl.OK},
		{"a card without holes", deckOf(maskOf(), maskOf(3)), []int64{0}, nil, impl.ErrNotFound},
		{"a card that is as another one", deckOf(maskOf(3), maskOf(3)), []int64{1}, nil, impl.ErrNotFound},
		{"a card within another one", deckOf(maskOf(3, 4, 5), maskOf(3, 4)), []int64{1}, nil, impl.ErrNotFound},
		{"three holes", deckOf(maskOf(7, 63, 64), maskOf(7, 63), maskOf(7, 64), maskOf(63, 64)), []int64{0}, []int64{7, 63, 64}, impl.OK},
		{"four holes would do", deckOf(maskOf(1, 2, 3, 4), maskOf(1, 2, 3), maskOf(1, 2, 4), maskOf(1, 3, 4), maskOf(2, 3, 4)), []int64{0}, nil, impl.ErrNotFound},
		{"three of four holes", deckOf(maskOf(1, 2, 3, 4), maskOf(1, 2, 3), maskOf(1, 2, 4), maskOf(2, 3, 4)), []int64{0}, []int64{1, 3, 4}, impl.OK},
		{"the lowest one of several holes", deckOf(maskOf(8, 70, 90), maskOf(90), maskOf(8, 70, 91)), []int64{0, 2}, []int64{8}, impl.OK},
		{"one hole before two that come first as a list", deckOf(maskOf(0, 1, 7), maskOf(0), maskOf(1)), []int64{0}, []int64{7}, impl.OK},
		{"two holes before three that come first as a list", deckOf(maskOf(0, 1, 2, 80, 90), maskOf(0, 1, 90), maskOf(0, 2, 80), maskOf(1, 2, 80), maskOf(1, 2, 90), maskOf(0, 80), maskOf(0, 90)), []int64{0}, []int64{80, 90}, impl.OK},
		{"the first list, not the least number", deckOf(maskOf(0, 1, 2, 95), maskOf(0, 1), maskOf(0, 2), maskOf(1, 95), maskOf(2, 95)), []int64{0}, []int64{0, 95}, impl.OK},
		{"the first list of three", deckOf(maskOf(0, 1, 2, 3, 95), maskOf(0, 1, 2), maskOf(0, 1, 3), maskOf(0, 2, 3), maskOf(0, 2, 95), maskOf(0, 3, 95), maskOf(1, 95), maskOf(2, 3, 95)), []int64{0}, []int64{0, 1, 95}, impl.OK},
		{"two cards that have one hole alone in common", deckOf(maskOf(3, 4), maskOf(4, 5), maskOf(3, 5)), []int64{0, 1}, []int64{4}, impl.OK},
		{"two cards that have nothing in common", deckOf(maskOf(3), maskOf(5), maskOf(7)), []int64{0, 1}, nil, impl.ErrNotFound},
	} {
		got, code := impl.FewestNeedles(x.deck, x.wanted)
		same(t, x.what, []any{holesIn(got), code}, []any{x.holes, x.code})
		checkFewest(t, x.deck, x.wanted)
	}
}

func TestFewestNeedlesAndTheirErrors(t *testing.T) {
	notFound := deckOf(maskOf(3), maskOf(3), maskOf(3)) // so that ErrNotFound would come behind ErrRange
	found := deckOf(maskOf(3), maskOf(4), maskOf(5))
	bad := [][]int64{{0, 0}, {1, 0}, {0, 2, 1}, {0, 1, 1}, {2, 2}, {3}, {0, 3}, {0, 1, 2, 3}, {-1}, {-1, 0}, {0, -1}, {-1 << 63}, {1<<63 - 1}, {1<<63 - 1, -1 << 63}, {0, 1<<63 - 1}, make([]int64, 100000)}
	for _, wanted := range bad {
		for _, deck := range [][]impl.Card{notFound, found} {
			m, code := impl.FewestNeedles(deck, wanted)
			same(t, label("FewestNeedles", wanted), []any{m, code}, []any{impl.Mask{}, int64(impl.ErrRange)})
		}
		for _, deck := range wrongDecks() {
			m, code := impl.FewestNeedles(deck, wanted)
			same(t, "FewestNeedles wrong", []any{m, code}, []any{impl.Mask{}, int64(impl.ErrInvalid)})
		}
	}
	for _, wanted := range [][]int64{{0}, {1}, {2}, {0, 1}, {0, 2}} {
		m, code := impl.FewestNeedles(notFound, wanted)
		same(t, label("FewestNeedles", wanted), []any{m, code}, []any{impl.Mask{}, int64(impl.ErrNotFound)})
	}
	m, code := impl.FewestNeedles(nil, []int64{0})
	same(t, "no card to be wanted", []any{m, code}, []any{impl.Mask{}, int64(impl.ErrRange)})
	for _, deck := range wrongDecks() {
		m, code := impl.FewestNeedles(deck, nil)
		same(t, "FewestNeedles wrong", []any{m, code}, []any{impl.Mask{}, int64(impl.ErrInvalid)})
	}
}
