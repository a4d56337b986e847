package tests

import (
	"math/rand"
	"strconv"
	"strings"
	"testing"

	"loop.example/g01261/impl"
)

func TestValidDecks(t *testing.T) {
	same(t, "limits", []int{impl.MaxDeck, impl.MaxPasses, impl.MaxNeedles}, []int{80, 200, 3})
	for _, deck := range goodDecks() {
		same(t, label("deck", deck), impl.ValidDeck(deck), true)
	}
	for i, deck := range wrongDecks() {
		same(t, label("wrong deck", i), impl.ValidDeck(deck), false)
	}
	r := rand.New(rand.NewSource(22))
	for n := range 90 {
		same(t, label("cards", n), impl.ValidDeck(randomDeck(r, n)), n <= 80)
	}
}

func TestSameDecks(t *testing.T) {
	a, b := impl.Card{Name: "a", Notches: maskOf(3)}, impl.Card{Name: "b", Notches: maskOf(70)}
	wrong := impl.Card{Name: "A 1", Notches: maskOf(127)}
	decks := [][]impl.Card{
		{}, {a}, {b}, {a, b}, {b, a}, {a, a}, {a, b, a}, {a, {}}, {{}}, {wrong}, {wrong, wrong}, {a, wrong},
		{{Name: "a", Notches: maskOf(3, 4)}}, {{Name: "a", Notches: maskOf(3, 70)}}, {{Name: "aa", Notches: maskOf(3)}}, {{Name: "a", Notches: maskOf(3, 100)}},
		make([]impl.Card, 500), make([]impl.Card, 501),
	}
	for i, x := range decks {
		for k, y := range decks {
			same(t, label("SameDeck", i, k), impl.SameDeck(append([]impl.Card{}, x...), y), i == k)
		}
	}
	same(t, "nil and empty", impl.SameDeck(nil, []impl.Card{}), true)
	same(t, "empty and nil", impl.SameDeck([]impl.Card{}, nil), true)
	same(t, "nil and a card", impl.SameDeck(nil, []impl.Card{{}}), false)
}

func TestFindCards(t *testing.T) {
	for _, deck := range goodDecks() {
		for i, c := range deck {
			at, code := impl.FindCard(deck, c.Name)
			same(t, label("FindCard", c.Name), []int64{at, code}, []int64{int64(i), impl.OK})
		}
		for _, name := range append(wrongNames(), "nobody", "c", "anty") {
			at, code := impl.FindCard(deck, name)
			same(t, label("FindCard nobody", len(name)), []int64{at, code}, []int64{0, impl.ErrNotFound})
		}
	}
	for _, deck := range wrongDecks() {
		for _, name := range append(wrongNames(), "ant", "good", nameOf(0), "nobody") {
			at, code := impl.FindCard(deck, name)
			same(t, "FindCard wrong", []int64{at, code}, []int64{0, impl.ErrInvalid})
		}
	}
}

// linesOf tells the text of a deck without the help of the package.
func linesOf(deck []impl.Card) string {
	text := ""
	for _, c := range deck {
		text += textOf(c) + "\n"
	}
	return text
}

func TestDecksFromTexts(t *testing.T) {
	r := rand.New(rand.NewSource(23))
	decks := goodDecks()
	for n := range impl.MaxDeck + 1 {
		decks = append(decks, randomDeck(r, n))
	}
	for _, deck := range decks {
		text := linesOf(deck)
		same(t, "DeckText", impl.DeckText(deck), text)
		back, code := impl.ReadDeck(text)
		same(t, label("ReadDeck", text), back, append([]impl.Card{}, deck...))
		same(t, label("ReadDeck", text), code, int64(impl.OK))
	}
	for i, deck := range wrongDecks() {
		same(t, label("text of a wrong deck", i), impl.DeckText(deck), "")
		if len(deck) == 1 && len(deck[0].Name) > 20 {
			continue
		}
		back, code := impl.ReadDeck(linesOf(deck))
		same(t, label("read of a wrong deck", i), back, []impl.Card{})
		same(t, label("read of a wrong deck", i), code, int64(impl.ErrSyntax))
	}
}

func TestTextsThatAreNoDeck(t *testing.T) {
	many := ""
	for i := range impl.MaxDeck + 1 {
		many += nameOf(i) + " " + strconv.Itoa(i) + "\n"
	}
	for _, text := range []string{
		"\n", "\n\n", " ", " \n", "ant", "ant 3", "ant 3 70", "ant\nbee", "ant 3\nbee 4",
		"ant 3\n\n", "\nant 3\n", "ant 3\n\nbee 4\n", "ant 3 \n", " ant 3\n", "ant  3\n", "ant 3\r\n", "ant 3\r", "ant\t3\n", "ant 3\n ", "ant 3\n\x00", "ant 3;bee 4\n", "ant 3\vbee 4\n", "ant 3\u2028bee 4\n",
		"ant 3\nant 3\n", "ant 3\nant 4\n", "ant 3\nbee\nant\n", "ant\nant\n",
		"ant 70 3\n", "ant 3 3\n", "ant 03\n", "ant +3\n", "ant -0\n", "ant -1\n", "ant 96\n", "ant 3\nbee 96\n", "ant 3\nbee 4 4\n", "ant x\n", "ant 3.0\n", "ant 18446744073709551619\n",
		"Ant 3\n", "3\n", "3 ant\n", "abcdefghijklmnopq 3\n", "ant bee\n", "ant 3 bee 4\n", "\xff\n", "ant 3\n\xff\n", "deck\nant 3 x\n",
		many, many[:len(many)-1], strings.Repeat("\n", 1000000), strings.Repeat("a\n", 500000), strings.Repeat("a", 1000000), strings.Repeat(" ", 1000000), strings.Repeat("ant 3\n", 160000), "a" + strings.Repeat(" 3", 400000) + "\n",
	} {
		deck, code := impl.ReadDeck(text)
		if len(deck) != 0 || code != impl.ErrSyntax {
			t.Errorf("ReadDeck of %.60q: got %v, %d", text, deck, code)
		}
	}
	deck, code := impl.ReadDeck("")
	same(t, "empty text", deck, []impl.Card{})
	same(t, "empty text", code, int64(impl.OK))
	same(t, "empty deck", impl.DeckText(nil), "")
	deck, code = impl.ReadDeck("ant 3 70\nbee\n")
	same(t, "two cards", deck, []impl.Card{{Name: "ant", Notches: maskOf(3, 70)}, {Name: "bee"}})
	same(t, "two cards", code, int64(impl.OK))
}
