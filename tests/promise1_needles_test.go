package tests

import (
	"math/rand"
	"strings"
	"testing"

	"loop.example/g01261/impl"
)

// hardDecks, hardLists and hardQueries are what a function of chapter 2 has to return for, valid or not.
func hardDecks() [][]impl.Card {
	return append(append(wrongDecks(), goodDecks()...), make([]impl.Card, 300000))
}

func hardLists() [][]int64 {
	rising := make([]int64, 1000000)
	for i := range rising {
		rising[i] = int64(i)
	}
	return [][]int64{nil, {}, {0}, {3, 3}, {95, 0}, {96}, {-1}, hardNumbers(), rising[:80], rising[:81], rising[:96], rising, make([]int64, 200), make([]int64, 201), make([]int64, 1000000)}
}

func hardQueries() []impl.Query {
	return append(wrongQueries(), impl.Query{}, impl.Query{All: maskOf(3), None: maskOf(70)}, impl.Query{All: fullMask}, impl.Query{None: fullMask})
}

func callsOfDecks() []call {
	var list []call
	add := func(name string, run func() []any) { list = append(list, call{name, run}) }
	lists := hardLists()
	for _, d := range hardDecks() {
		add("ValidDeck", func() []any { return []any{impl.ValidDeck(d)} })
		add("SameDeck", func() []any { return []any{impl.SameDeck(d, d), impl.SameDeck(d, nil), impl.SameDeck(nil, d)} })
		add("DeckText", func() []any { return []any{impl.DeckText(d)} })
		for _, name := range hardTexts() {
			add("FindCard", func() []any { at, code := impl.FindCard(d, name); return []any{at, code} })
		}
		for _, n := range hardNumbers() {
			add("PassNeedle", func() []any { after, dropped, code := impl.PassNeedle(d, n); return []any{after, dropped, code} })
			add("SplitDeck", func() []any { stay, drop, code := impl.SplitDeck(d, n); return []any{stay, drop, code} })
		}
		for _, holes := range lists {
			add("PassMany", func() []any { after, code := impl.PassMany(d, holes); return []any{after, code} })
			add("FewestNeedles", func() []any { m, code := impl.FewestNeedles(d, holes); return []any{m, code} })
		}
	}
	for _, text := range append(hardTexts(), "ant 3\nbee 4\n", "ant 3\nbee 4", strings.Repeat("a\n", 400000), strings.Repeat("\n", 900000)) {
		add("ReadDeck", func() []any { d, code := impl.ReadDeck(text); return []any{d, code} })
	}
	return list
}

func callsOfSorting() []call {
	var list []call
	add := func(name string, run func() []any) { list = append(list, call{name, run}) }
	decks := hardDecks()
	for _, f := range hardFields() {
		add("HolesToSort", func() []any { holes, code := impl.HolesToSort(f); return []any{holes, code} })
		for _, m := range hardMasks() {
			add("KeyOf", func() []any { key, code := impl.KeyOf(f, m); return []any{key, code} })
		}
		for _, n := range hardNumbers() {
			add("QueryFor", func() []any { q, code := impl.QueryFor(f, n); return []any{q, code} })
			add("FirstFrom", func() []any { at, code := impl.FirstFrom(decks[len(decks)-4], f, n); return []any{at, code} })
		}
		for i, d := range decks {
			add("SortDeck", func() []any { after, code := impl.SortDeck(d, f); return []any{after, code} })
			add("IsSorted", func() []any { yes, code := impl.IsSorted(d, f); return []any{yes, code} })
			add("MergeDecks", func() []any {
				after, code := impl.MergeDecks(d, decks[(i+1)%len(decks)], f)
				return []any{after, code}
			})
		}
	}
	return list
}

func callsOfQueries() []call {
	var list []call
	add := func(name string, run func() []any) { list = append(list, call{name, run}) }
	decks := hardDecks()
	for _, q := range hardQueries() {
		add("ValidQuery", func() []any { return []any{impl.ValidQuery(q)} })
		add("PassesOf", func() []any { n, code := impl.PassesOf(q); return []any{n, code} })
		for _, m := range hardMasks() {
			add("DropsCard", func() []any { yes, code := impl.DropsCard(q, m); return []any{yes, code} })
		}
		for _, other := range hardQueries() {
			add("BothQueries", func() []any { both, code := impl.BothQueries(q, other); return []any{both, code} })
		}
		for _, d := range decks {
			add("AnswerOf", func() []any { answer, code := impl.AnswerOf(d, q); return []any{answer, code} })
			add("AnyOf", func() []any { answer, code := impl.AnyOf(d, []impl.Query{q, {}, q}); return []any{answer, code} })
		}
	}
	many := make([]impl.Query, 250000)
	for i := range many {
		many[i].All = fullMask
	}
	for _, d := range decks[len(decks)-10:] {
		add("AnyOf", func() []any { answer, code := impl.AnyOf(d, many); return []any{answer, code} })
		add("AnyOf", func() []any {
			answer, code := impl.AnyOf(d, append(many, hardQueries()...))
			return []any{answer, code}
		})
	}
	return list
}

// The functions of chapter 2 leave their arguments, and what is behind them in the same memory, as they are.
func TestPromise1ArgumentsOfChapter2Stay(t *testing.T) {
	extra := impl.Card{Name: "extra", Notches: maskOf(1)}
	for _, f := range []impl.Field{{Name: "f", Kind: impl.KdBinary, Start: 60, Size: 5}, {Name: "f", Kind: impl.KdDirect, Start: 0, Size: 24}, {}} {
		for _, d := range append(append(wrongDecks(), goodDecks()...), sortedBy(randomDeck(rand.New(rand.NewSource(60)), 30), impl.Field{Name: "f", Kind: impl.KdBinary, Start: 60, Size: 5})) {
			deck, whole := spare(d, extra, extra, extra)
			other, all := spare([]impl.Card{{Name: "other"}, {Name: "others", Notches: maskOf(64)}}, extra, extra, extra)
			useDeck(deck, f)
			impl.MergeDecks(deck, other, f)
			impl.MergeDecks(other, deck, f)
			same(t, "deck", whole, append(append([]impl.Card{}, d...), extra, extra, extra))
			same(t, "other deck", all, []impl.Card{{Name: "other"}, {Name: "others", Notches: maskOf(64)}, extra, extra, extra})
			for _, numbers := range [][]int64{{0}, {0, 2}, {70, 3, 3}, {9, 96, 1}, {}, hardNumbers()} {
				holes, rest := spare(numbers, 11, 12)
				impl.PassMany(deck, holes)
				impl.FewestNeedles(deck, holes)
				same(t, "numbers", rest, append(append([]int64{}, numbers...), 11, 12))
			}
			for _, queries := range [][]impl.Query{{{All: maskOf(3)}, {None: maskOf(70)}}, wrongQueries(), {}} {
				list, rest := spare(queries, impl.Query{All: maskOf(5)})
				impl.AnyOf(deck, list)
				same(t, "queries", rest, append(append([]impl.Query{}, queries...), impl.Query{All: maskOf(5)}))
			}
			same(t, "deck behind it", whole, append(append([]impl.Card{}, d...), extra, extra, extra))
		}
	}
}

// useDeck calls the functions of chapter 2 that take one deck, and at most a field or a hole.
func useDeck(deck []impl.Card, f impl.Field) {
	impl.ValidDeck(deck)
	impl.SameDeck(deck, deck)
	impl.FindCard(deck, "extra")
	impl.DeckText(deck)
	impl.SortDeck(deck, f)
	impl.IsSorted(deck, f)
	impl.FirstFrom(deck, f, 3)
	impl.AnswerOf(deck, impl.Query{All: maskOf(3)})
	for _, hole := range []int64{0, 3, 63, 64, 95, 96} {
		impl.PassNeedle(deck, hole)
		impl.SplitDeck(deck, hole)
	}
}

// wipe writes into a deck, and into its unused capacity.
func wipe(deck []impl.Card) {
	deck = deck[:cap(deck)]
	for i := range deck {
		deck[i] = impl.Card{Name: "wiped", Notches: maskOf(0)}
	}
}

// What is written into a deck that has been returned is seen neither in an argument nor in another result.
func TestPromise1ResultsOfChapter2AreNew(t *testing.T) {
	f := impl.Field{Name: "b", Kind: impl.KdBinary, Start: 60, Size: 6}
	r := rand.New(rand.NewSource(61))
	none, all := deckOf(maskOf(3), maskOf(4)), deckOf(maskOf(50), maskOf(50, 3))
	for _, d := range append(goodDecks(), sortedBy(randomDeck(r, 30), f), none, all) {
		deck := append([]impl.Card{}, d...)
		for _, hole := range []int64{0, 50, 95} {
			after, _, _ := impl.PassNeedle(deck, hole)
			wipe(after)
			want, _ := afterPass(d, hole)
			stay, drop, _ := impl.SplitDeck(deck, hole)
			dropped := append([]impl.Card{}, drop...)
			wipe(stay)
			same(t, "drop", drop, dropped)
			stay, drop, _ = impl.SplitDeck(deck, hole)
			wipe(drop)
			same(t, "stay", stay, want[:len(stay)])
			many, _ := impl.PassMany(deck, []int64{hole, hole})
			wipe(many)
		}
		many, _ := impl.PassMany(deck, nil)
		wipe(many)
		sorted, _ := impl.SortDeck(deck, f)
		wipe(sorted)
		same(t, "deck", deck, append([]impl.Card{}, d...))
		a, b := sortedBy(deck, f), []impl.Card{}
		for _, decks := range [][2][]impl.Card{{a, b}, {b, a}} {
			merged, _ := impl.MergeDecks(decks[0], decks[1], f)
			wipe(merged)
		}
		same(t, "merged deck", a, sortedBy(d, f))
		text := impl.DeckText(deck)
		read, _ := impl.ReadDeck(text)
		wipe(read)
		read, _ = impl.ReadDeck(text)
		same(t, "ReadDeck", read, append([]impl.Card{}, d...))
	}
	checkNumbersAreNew(t, f)
}

// checkNumbersAreNew does so with the lists of numbers that are returned.
func checkNumbersAreNew(t *testing.T, f impl.Field) {
	t.Helper()
	for range 2 {
		holes, _ := impl.HolesToSort(f)
		same(t, "HolesToSort", holes, orderOf(f))
		answer, _ := impl.AnswerOf(deckOf(maskOf(3), maskOf(4), maskOf(3)), impl.Query{All: maskOf(3)})
		same(t, "AnswerOf", answer, []int64{0, 2})
		several, _ := impl.AnyOf(deckOf(maskOf(3), maskOf(4), maskOf(5)), []impl.Query{{All: maskOf(5)}, {All: maskOf(3)}})
		same(t, "AnyOf", several, []int64{0, 2})
		for _, list := range [][]int64{holes, answer, several} {
			for i := range list {
				list[i] = -5
			}
		}
	}
}
