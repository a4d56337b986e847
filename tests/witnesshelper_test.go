package tests

import (
	"math/big"
	"math/rand"
	"slices"
	"strconv"

	"loop.example/g01261/impl"
)

// isWitnessIn tells whether a hole shows that a query does not drop a card with some notches.
func isWitnessIn(q impl.Query, m impl.Mask, hole int64) bool {
	if hole < 0 || hole > 95 {
		return false
	}
	return isNotched(q.All, hole) && !isNotched(m, hole) || isNotched(q.None, hole) && isNotched(m, hole)
}

// rightAnswer tells the answer of a deck, card by card and hole by hole.
func rightAnswer(deck []impl.Card, q impl.Query) impl.Answer {
	a := impl.Answer{Query: q, In: answerIn(deck, q)}
	for i, c := range deck {
		for hole := range int64(96) {
			if isWitnessIn(q, c.Notches, hole) {
				a.Out = append(a.Out, impl.Witness{Card: int64(i), Hole: int16(hole)})
				break
			}
		}
	}
	return a
}

// cardsIn tells the cards of witnesses.
func cardsIn(out []impl.Witness) []int64 {
	cards := []int64{}
	for _, w := range out {
		cards = append(cards, w.Card)
	}
	return cards
}

// faultIn tells the first card for which an answer is wrong, -1 if its lists are none of cards in order, and the number of cards if the answer is accepted.
func faultIn(deck []impl.Card, a impl.Answer) int64 {
	last := int64(len(deck)) - 1
	if !isRisingIn(a.In, 0, last) || !isRisingIn(cardsIn(a.Out), 0, last) {
		return -1
	}
	for i, c := range deck {
		in := slices.Contains(a.In, int64(i))
		at := slices.Index(cardsIn(a.Out), int64(i))
		switch {
		case in && at >= 0, !in && at < 0, in && !dropsIn(a.Query, c.Notches):
			return int64(i)
		case at >= 0 && !isWitnessIn(a.Query, c.Notches, int64(a.Out[at].Hole)):
			return int64(i)
		}
	}
	return last + 1
}

// copyOf returns an answer with lists of its own.
func copyOf(a impl.Answer) impl.Answer {
	return impl.Answer{Query: a.Query, In: slices.Clone(a.In), Out: slices.Clone(a.Out)}
}

// hashIn tells the hash of a card with numbers without end.
func hashIn(c impl.Card) uint64 {
	hash, _ := new(big.Int).SetString("14695981039346656037", 10)
	numbers := []uint64{}
	for _, letter := range []byte(c.Name) {
		numbers = append(numbers, uint64(letter))
	}
	whole := new(big.Int).Lsh(big.NewInt(1), 64)
	for _, number := range append(numbers, c.Notches[0], c.Notches[1]) {
		hash.Xor(hash, new(big.Int).SetUint64(number))
		hash.Mul(hash, big.NewInt(1099511628211))
		hash.Mod(hash, whole)
	}
	return hash.Uint64()
}

// sumIn tells the sum of the hashes of all cards.
func sumIn(deck []impl.Card) uint64 {
	sum := new(big.Int)
	for _, c := range deck {
		sum.Add(sum, new(big.Int).SetUint64(hashIn(c)))
	}
	return sum.Mod(sum, new(big.Int).Lsh(big.NewInt(1), 64)).Uint64()
}

// shuffled returns a deck with the same cards in another order.
func shuffled(r *rand.Rand, deck []impl.Card) []impl.Card {
	after := slices.Clone(deck)
	r.Shuffle(len(after), func(i, k int) { after[i], after[k] = after[k], after[i] })
	return after
}

// inOrder returns a deck in the order of the names.
func inOrder(deck []impl.Card) []impl.Card {
	after := slices.Clone(deck)
	slices.SortFunc(after, func(c, d impl.Card) int {
		if c.Name < d.Name {
			return -1
		}
		return 1
	})
	return after
}

// placeOf tells the index of the card with a name, -1 if there is none.
func placeOf(deck []impl.Card, name string) int {
	for i, c := range deck {
		if c.Name == name {
			return i
		}
	}
	return -1
}

// stateIn tells as a text what a deck has of a name: "none", or the card.
func stateIn(deck []impl.Card, name string) string {
	if at := placeOf(deck, name); at >= 0 {
		return "card " + textOf(deck[at])
	}
	return "none"
}

func addEdit(c impl.Card) impl.Edit {
	return impl.Edit{Kind: impl.EdAdd, Name: c.Name, Notches: c.Notches}
}

func dropEdit(c impl.Card) impl.Edit {
	return impl.Edit{Kind: impl.EdDrop, Name: c.Name, Notches: c.Notches}
}

func notchEdit(name string, hole int64) impl.Edit {
	return impl.Edit{Kind: impl.EdNotch, Name: name, Hole: int16(hole)}
}

func fillEdit(name string, hole int64) impl.Edit {
	return impl.Edit{Kind: impl.EdFill, Name: name, Hole: int16(hole)}
}

// editsIn tells the edits that make the deck b of a, hole by hole.
func editsIn(a, b []impl.Card) []impl.Edit {
	edits := []impl.Edit{}
	for _, c := range a {
		at := placeOf(b, c.Name)
		if at < 0 {
			edits = append(edits, dropEdit(c))
			continue
		}
		for hole := range int64(96) {
			if isNotched(c.Notches, hole) && !isNotched(b[at].Notches, hole) {
				edits = append(edits, fillEdit(c.Name, hole))
			}
		}
		for hole := range int64(96) {
			if !isNotched(c.Notches, hole) && isNotched(b[at].Notches, hole) {
				edits = append(edits, notchEdit(c.Name, hole))
			}
		}
	}
	for _, c := range b {
		if placeOf(a, c.Name) < 0 {
			edits = append(edits, addEdit(c))
		}
	}
	return edits
}

// editedBy tells the deck behind a valid edit, or the code of what is wrong.
func editedBy(deck []impl.Card, e impl.Edit) ([]impl.Card, int64) {
	at := placeOf(deck, e.Name)
	if e.Kind == impl.EdAdd {
		switch {
		case len(deck) == 80:
			return nil, impl.ErrLimit
		case at >= 0:
			return nil, impl.ErrState
		}
		return append(slices.Clone(deck), impl.Card{Name: e.Name, Notches: e.Notches}), impl.OK
	}
	if at < 0 {
		return nil, impl.ErrState
	}
	c := deck[at]
	one := maskOf(int64(e.Hole))
	switch {
	case e.Kind == impl.EdDrop && c.Notches == e.Notches:
		return append(slices.Clone(deck[:at]), deck[at+1:]...), impl.OK
	case e.Kind == impl.EdNotch && !isNotched(c.Notches, int64(e.Hole)):
		c.Notches = joined(c.Notches, one)
	case e.Kind == impl.EdFill && isNotched(c.Notches, int64(e.Hole)):
		c.Notches = lessOf(c.Notches, one)
	default:
		return nil, impl.ErrState
	}
	after := slices.Clone(deck)
	after[at] = c
	return after, impl.OK
}

// undoneIn tells the edits that undo some.
func undoneIn(edits []impl.Edit) []impl.Edit {
	opposite := map[int8]int8{1: 2, 2: 1, 3: 4, 4: 3}
	undo := make([]impl.Edit, len(edits))
	for i, e := range edits {
		e.Kind = opposite[e.Kind]
		undo[len(edits)-1-i] = e
	}
	return undo
}

// textOfEdits tells the text of valid edits.
func textOfEdits(edits []impl.Edit) string {
	text := ""
	for _, e := range edits {
		switch e.Kind {
		case impl.EdAdd:
			text += "add " + textOf(impl.Card{Name: e.Name, Notches: e.Notches})
		case impl.EdDrop:
			text += "drop " + textOf(impl.Card{Name: e.Name, Notches: e.Notches})
		case impl.EdNotch:
			text += "notch " + e.Name + " " + strconv.Itoa(int(e.Hole))
		case impl.EdFill:
			text += "fill " + e.Name + " " + strconv.Itoa(int(e.Hole))
		}
		text += "\n"
	}
	return text
}

// randomEdit returns a valid edit, which may fit to a deck or not.
func randomEdit(r *rand.Rand, deck []impl.Card) impl.Edit {
	c := impl.Card{Name: nameOf(r.Intn(90)), Notches: randomMask(r)}
	if len(deck) > 0 && r.Intn(4) > 0 {
		c = deck[r.Intn(len(deck))]
	}
	if r.Intn(8) == 0 {
		c.Notches = randomMask(r)
	}
	list := []impl.Edit{addEdit(c), dropEdit(c), notchEdit(c.Name, r.Int63n(96)), fillEdit(c.Name, r.Int63n(96))}
	return list[r.Intn(4)]
}

// fittingEdits returns n edits that fit one after the other, and the deck behind them.
func fittingEdits(r *rand.Rand, deck []impl.Card, n int) ([]impl.Edit, []impl.Card) {
	edits := []impl.Edit{}
	for len(edits) < n {
		e := randomEdit(r, deck)
		if after, code := editedBy(deck, e); code == impl.OK {
			deck = after
			edits = append(edits, e)
		}
	}
	return edits, deck
}

// changedDeck returns a deck some of whose cards are gone, others are notched otherwise, and others are new.
func changedDeck(r *rand.Rand, deck []impl.Card, from int) []impl.Card {
	after := []impl.Card{}
	for _, c := range deck {
		switch r.Intn(6) {
		case 0:
			continue
		case 1:
			c.Notches = wornBy(c.Notches, randomSmallWear(r))
		}
		after = append(after, c)
	}
	for i := range r.Intn(4) {
		after = append(after, impl.Card{Name: nameOf(from + i), Notches: randomMask(r)})
	}
	return shuffled(r, after)
}

// randomSmallWear returns wear of at most four holes.
func randomSmallWear(r *rand.Rand) impl.Wear {
	var w impl.Wear
	for range r.Intn(5) {
		w.Torn = joined(w.Torn, maskOf(r.Int63n(96)))
	}
	w.Filled = lessOf(maskOf(r.Int63n(96)), w.Torn)
	return w
}

// goodEdits are valid.
func goodEdits() []impl.Edit {
	list := []impl.Edit{}
	for _, c := range []impl.Card{{Name: "a"}, {Name: "abcdefghijklmnop"}, {Name: "ant", Notches: maskOf(3)}, {Name: "z", Notches: fullMask}, {Name: "bee", Notches: maskOf(0, 63, 64, 95)}} {
		list = append(list, addEdit(c), dropEdit(c))
	}
	for hole := range int64(96) {
		list = append(list, notchEdit("ant", hole), fillEdit("ant", hole))
	}
	return append(list, notchEdit("abcdefghijklmnop", 0), fillEdit("abcdefghijklmnop", 95))
}

// wrongEdits are edits that are almost valid.
func wrongEdits() []impl.Edit {
	list := []impl.Edit{{}, {Name: "ant"}, {Kind: impl.EdAdd}, {Kind: impl.EdDrop}, {Kind: impl.EdNotch}, {Kind: impl.EdFill}}
	for _, kind := range []int8{0, 5, 6, -1, -2, -3, -4, 127, -128} {
		list = append(list, impl.Edit{Kind: kind, Name: "ant"}, impl.Edit{Kind: kind, Name: "ant", Hole: 3}, impl.Edit{Kind: kind, Name: "ant", Notches: maskOf(3)})
	}
	for kind := range int8(5) {
		for _, name := range wrongNames() {
			list = append(list, impl.Edit{Kind: kind, Name: name}, impl.Edit{Kind: kind, Name: name, Notches: maskOf(3)}, impl.Edit{Kind: kind, Name: name, Hole: 3})
		}
	}
	for _, kind := range []int8{impl.EdAdd, impl.EdDrop} {
		for _, hole := range []int16{1, 3, 95, 96, -1, 32767, -32768, 256} {
			list = append(list, impl.Edit{Kind: kind, Name: "ant", Hole: hole}, impl.Edit{Kind: kind, Name: "ant", Hole: hole, Notches: maskOf(3)})
		}
		for _, m := range invalidMasks() {
			list = append(list, impl.Edit{Kind: kind, Name: "ant", Notches: m})
		}
	}
	for _, kind := range []int8{impl.EdNotch, impl.EdFill} {
		for _, hole := range []int16{-1, -2, 96, 97, 127, 128, 256, 32767, -32768} {
			list = append(list, impl.Edit{Kind: kind, Name: "ant", Hole: hole})
		}
		for _, m := range append(invalidMasks(), maskOf(0), maskOf(3), maskOf(64), maskOf(95), fullMask) {
			list = append(list, impl.Edit{Kind: kind, Name: "ant", Hole: 3, Notches: m}, impl.Edit{Kind: kind, Name: "ant", Notches: m})
		}
	}
	return list
}
