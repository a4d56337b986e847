package tests

import (
	"math/rand"
	"slices"
	"testing"

	"loop.example/g01261/impl"
)

// checkBetween checks the edits that make the deck b of a, and that they make it, and can be undone.
func checkBetween(t *testing.T, a, b []impl.Card) {
	t.Helper()
	edits, code := impl.EditsBetween(a, b)
	want := editsIn(a, b)
	if len(want) > impl.MaxEdits {
		checkCode(t, label("EditsBetween", len(want)), []any{edits, code}, impl.ErrLimit)
		return
	}
	same(t, label("EditsBetween", a, b), edits, want)
	sameOf(t, code, int64(impl.OK), "EditsBetween", a, b)
	made, n, code := impl.ApplyEdits(a, edits)
	same(t, label("ApplyEdits", a, edits), inOrder(made), inOrder(b))
	sameOf(t, []int64{n, code}, []int64{int64(len(edits)), impl.OK}, "ApplyEdits", a, edits)
	checkUndo(t, a, edits, made)
}

// checkUndo checks that edits that make a deck of another one can be undone.
func checkUndo(t *testing.T, deck []impl.Card, edits []impl.Edit, made []impl.Card) {
	t.Helper()
	undo, code := impl.UndoEdits(edits)
	same(t, label("UndoEdits", edits), undo, undoneIn(edits))
	sameOf(t, code, int64(impl.OK), "UndoEdits", edits)
	back, n, code := impl.ApplyEdits(made, undo)
	same(t, label("undone", deck, edits), inOrder(back), inOrder(deck))
	sameOf(t, []int64{n, code}, []int64{int64(len(edits)), impl.OK}, "undone", deck, edits)
	alike, code := impl.SameCards(back, deck)
	sameOf(t, []any{alike, code}, []any{true, int64(impl.OK)}, "SameCards", back, deck)
	again, code := impl.UndoEdits(undo)
	same(t, label("undone twice", edits), again, edits)
	sameOf(t, code, int64(impl.OK), "undone twice", edits)
}

func TestPromise16EditsBetween(t *testing.T) {
	r := rand.New(rand.NewSource(320))
	for range 300 {
		n := r.Intn(40)
		a := randomDeck(r, n)
		checkBetween(t, a, changedDeck(r, a, n))
		checkBetween(t, changedDeck(r, a, n), a)
		checkBetween(t, a, shuffled(r, a))
		checkBetween(t, a, a)
		checkBetween(t, a, nil)
		checkBetween(t, nil, a)
	}
	for _, a := range goodDecks() {
		for _, b := range goodDecks() {
			checkBetween(t, a, b)
		}
	}
}

// All decks of at most two cards with two holes are made of each other.
func TestPromise16AllSmallDecks(t *testing.T) {
	var decks [][]impl.Card
	states := []impl.Mask{{}, maskOf(3), maskOf(64), maskOf(3, 64)}
	for i := range 5 {
		for k := range 5 {
			deck := []impl.Card{}
			if i > 0 {
				deck = append(deck, impl.Card{Name: "a", Notches: states[i-1]})
			}
			if k > 0 {
				deck = append(deck, impl.Card{Name: "b", Notches: states[k-1]})
			}
			decks = append(decks, deck)
			if len(deck) == 2 {
				decks = append(decks, []impl.Card{deck[1], deck[0]})
			}
		}
	}
	for _, a := range decks {
		for _, b := range decks {
			checkBetween(t, a, b)
		}
	}
}

func TestPromise16EditsByHand(t *testing.T) {
	a := []impl.Card{{Name: "x", Notches: maskOf(3)}, {Name: "gone", Notches: maskOf(9)}, {Name: "y", Notches: maskOf(70, 2, 5)}, {Name: "kept", Notches: maskOf(1)}, {Name: "left"}}
	b := []impl.Card{{Name: "new", Notches: maskOf(8)}, {Name: "y", Notches: maskOf(64, 5, 0)}, {Name: "kept", Notches: maskOf(1)}, {Name: "x", Notches: maskOf(4)}, {Name: "also"}}
	edits, code := impl.EditsBetween(a, b)
	same(t, "EditsBetween", code, int64(impl.OK))
	same(t, "EditsBetween", edits, []impl.Edit{
		fillEdit("x", 3), notchEdit("x", 4),
		{Kind: impl.EdDrop, Name: "gone", Notches: maskOf(9)},
		fillEdit("y", 2), fillEdit("y", 70), notchEdit("y", 0), notchEdit("y", 64),
		{Kind: impl.EdDrop, Name: "left"},
		{Kind: impl.EdAdd, Name: "new", Notches: maskOf(8)}, {Kind: impl.EdAdd, Name: "also"},
	})
	made, n, code := impl.ApplyEdits(a, edits)
	same(t, "ApplyEdits", []int64{n, code}, []int64{10, impl.OK})
	same(t, "ApplyEdits", made, []impl.Card{{Name: "x", Notches: maskOf(4)}, {Name: "y", Notches: maskOf(64, 5, 0)}, {Name: "kept", Notches: maskOf(1)}, {Name: "new", Notches: maskOf(8)}, {Name: "also"}})
	undo, _ := impl.UndoEdits(edits)
	back, _, _ := impl.ApplyEdits(made, undo)
	same(t, "undone", back, []impl.Card{{Name: "x", Notches: maskOf(3)}, {Name: "y", Notches: maskOf(70, 2, 5)}, {Name: "kept", Notches: maskOf(1)}, {Name: "left"}, {Name: "gone", Notches: maskOf(9)}})
}

// The number of edits between decks may be MaxEdits, and not more.
func TestPromise16MostEditsBetween(t *testing.T) {
	all := deckOf(fullMask, fullMask, maskOf(0, 1, 2, 3, 4, 5, 6, 7))
	none := deckOf(impl.Mask{}, impl.Mask{}, impl.Mask{})
	for _, two := range [][2][]impl.Card{{all, none}, {none, all}} {
		edits, code := impl.EditsBetween(two[0], two[1])
		same(t, "MaxEdits edits", []int64{int64(len(edits)), code}, []int64{impl.MaxEdits, impl.OK})
		checkBetween(t, two[0], two[1])
	}
	more := append(slices.Clone(all), impl.Card{Name: "more"})
	for _, two := range [][2][]impl.Card{{more, none}, {none, more}, {all, append(slices.Clone(none), impl.Card{Name: "more"})}, {deckOf(slices.Repeat([]impl.Mask{fullMask}, 80)...), deckOf(make([]impl.Mask, 80)...)}} {
		edits, code := impl.EditsBetween(two[0], two[1])
		checkCode(t, "more than MaxEdits", []any{edits, code}, impl.ErrLimit)
	}
	// 80 cards dropped, and 80 others added.
	full := deckOf(slices.Repeat([]impl.Mask{fullMask}, impl.MaxDeck)...)
	others := slices.Clone(full)
	for i := range others {
		others[i].Name = nameOf(100 + i)
	}
	checkBetween(t, full, others)
}

// checkEdit checks one edit of a deck, with its check, and tells whether it fits.
func checkEdit(t *testing.T, deck []impl.Card, e impl.Edit) bool {
	t.Helper()
	want, fault := editedBy(deck, e)
	after, code := impl.ApplyEdit(deck, e)
	several, n, codeOfSeveral := impl.ApplyEdits(deck, []impl.Edit{e})
	told := sumIn(deck)
	check, codeOfCheck := impl.CheckAfter(told, deck, e)
	if fault != impl.OK {
		checkCode(t, label("ApplyEdit", deck, e), []any{after, code}, fault)
		checkCode(t, label("ApplyEdits", deck, e), []any{several, n, codeOfSeveral}, fault)
		checkCode(t, label("CheckAfter", deck, e), []any{check, codeOfCheck}, fault)
		return false
	}
	same(t, label("ApplyEdit", deck, e), after, want)
	same(t, label("ApplyEdits", deck, e), several, want)
	sameOf(t, []int64{code, codeOfSeveral, n, codeOfCheck}, []int64{impl.OK, impl.OK, 1, impl.OK}, "codes", deck, e)
	sameOf(t, check, sumIn(want), "CheckAfter", deck, e)
	// A check that is not that of the deck is off by as much behind the edit.
	for _, off := range []uint64{1, 1 << 63, ^uint64(0), -told, -check} {
		other, code := impl.CheckAfter(told+off, deck, e)
		sameOf(t, []any{other, code}, []any{check + off, int64(impl.OK)}, "CheckAfter another check", deck, e)
	}
	checkUndo(t, deck, []impl.Edit{e}, after)
	return true
}

func TestPromise16SingleEdits(t *testing.T) {
	r := rand.New(rand.NewSource(321))
	fitting := map[int8]int{}
	unfit := map[int8]int{}
	for range 3000 {
		deck := randomDeck(r, []int{0, 1, 5, 79, 80}[r.Intn(5)])
		e := randomEdit(r, deck)
		if checkEdit(t, deck, e) {
			fitting[e.Kind]++
		} else {
			unfit[e.Kind]++
		}
	}
	for kind := int8(1); kind < 5; kind++ {
		if fitting[kind] < 50 || unfit[kind] < 50 {
			t.Errorf("the kind %d fits %d times, and does not %d times", kind, fitting[kind], unfit[kind])
		}
	}
}

// Each hole of a card is notched and filled, whether it fits or not; no other card is touched.
func TestPromise16EachHoleEdited(t *testing.T) {
	deck := []impl.Card{{Name: "ant", Notches: maskOf(0, 5, 63, 64, 95)}, {Name: "bee", Notches: impl.Mask{}}, {Name: "cow", Notches: fullMask}}
	for _, c := range append(deck, impl.Card{Name: "an"}, impl.Card{Name: "dog"}) {
		for hole := range int64(96) {
			there := placeOf(deck, c.Name) >= 0
			same(t, label("notch", c, hole), checkEdit(t, deck, notchEdit(c.Name, hole)), there && !isNotched(c.Notches, hole))
			same(t, label("fill", c, hole), checkEdit(t, deck, fillEdit(c.Name, hole)), there && isNotched(c.Notches, hole))
		}
	}
}

// Cards are added if their names are new, and dropped if they have just the notches that are told.
func TestPromise16CardsAddedAndDropped(t *testing.T) {
	deck := []impl.Card{{Name: "ant", Notches: maskOf(3, 64)}, {Name: "bee"}, {Name: "cow", Notches: fullMask}}
	for _, name := range []string{"ant", "bee", "cow", "an", "ants", "dog"} {
		for _, m := range []impl.Mask{{}, maskOf(3), maskOf(64), maskOf(3, 64), maskOf(3, 64, 65), fullMask, lessOf(fullMask, maskOf(95))} {
			at := placeOf(deck, name)
			same(t, label("add", name, m), checkEdit(t, deck, addEdit(impl.Card{Name: name, Notches: m})), at < 0)
			same(t, label("drop", name, m), checkEdit(t, deck, dropEdit(impl.Card{Name: name, Notches: m})), at >= 0 && deck[at].Notches == m)
		}
	}
}

// A deck may get MaxDeck cards, and not more; that it is full comes before what does not fit.
func TestPromise16FullDecks(t *testing.T) {
	r := rand.New(rand.NewSource(322))
	deck := randomDeck(r, impl.MaxDeck-1)
	last := addEdit(impl.Card{Name: "last", Notches: maskOf(3)})
	same(t, "the last card", checkEdit(t, deck, last), true)
	full, _ := impl.ApplyEdit(deck, last)
	same(t, "cards", len(full), impl.MaxDeck)
	for _, e := range []impl.Edit{addEdit(impl.Card{Name: "more"}), last, addEdit(full[0]), addEdit(impl.Card{Name: full[79].Name})} {
		after, code := impl.ApplyEdit(full, e)
		checkCode(t, label("ApplyEdit", e), []any{after, code}, impl.ErrLimit)
		after, n, code := impl.ApplyEdits(full, []impl.Edit{e})
		checkCode(t, label("ApplyEdits", e), []any{after, n, code}, impl.ErrLimit)
		check, code := impl.CheckAfter(5, full, e)
		checkCode(t, label("CheckAfter", e), []any{check, code}, impl.ErrLimit)
	}
	for _, e := range []impl.Edit{dropEdit(impl.Card{Name: "more"}), notchEdit("more", 3), fillEdit("more", 3), notchEdit("last", 3), fillEdit("last", 4)} {
		same(t, label("unfit", e), checkEdit(t, full, e), false)
	}
	for _, e := range []impl.Edit{dropEdit(full[0]), notchEdit("last", 4), fillEdit("last", 3)} {
		same(t, label("fits", e), checkEdit(t, full, e), true)
	}
	// A card that goes makes room for another one, and two do not fit into it.
	made, n, code := impl.ApplyEdits(full, []impl.Edit{dropEdit(full[7]), addEdit(impl.Card{Name: "more"})})
	same(t, "room", []int64{int64(len(made)), n, code}, []int64{80, 2, impl.OK})
	made, n, code = impl.ApplyEdits(full, []impl.Edit{dropEdit(full[7]), addEdit(impl.Card{Name: "more"}), addEdit(impl.Card{Name: "most"})})
	checkCode(t, "no room", []any{made, n, code}, impl.ErrLimit)
}

func TestPromise16SeveralEdits(t *testing.T) {
	r := rand.New(rand.NewSource(323))
	for range 60 {
		deck := randomDeck(r, r.Intn(impl.MaxDeck+1))
		edits, want := fittingEdits(r, deck, r.Intn(60))
		made, n, code := impl.ApplyEdits(deck, edits)
		same(t, label("ApplyEdits", edits), made, want)
		sameOf(t, []int64{n, code}, []int64{int64(len(edits)), impl.OK}, "ApplyEdits", edits)
		checkUndo(t, deck, edits, made)
		check, now := sumIn(deck), deck
		for _, e := range edits {
			check, _ = impl.CheckAfter(check, now, e)
			now, _ = impl.ApplyEdit(now, e)
			sameOf(t, check, sumIn(now), "CheckAfter", now, e)
		}
		same(t, "one after the other", now, made)
	}
}

// The first edit that does not fit tells the code, wherever it is, and nothing is made.
func TestPromise16OneEditThatDoesNotFit(t *testing.T) {
	r := rand.New(rand.NewSource(324))
	for range 200 {
		deck := randomDeck(r, 70+r.Intn(11))
		edits, _ := fittingEdits(r, deck, 20)
		for i := range edits {
			if r.Intn(6) == 0 {
				edits[i] = randomEdit(r, deck)
			}
		}
		want, now := int64(impl.OK), deck
		for _, e := range edits {
			if now, want = editedBy(now, e); want != impl.OK {
				break
			}
		}
		made, n, code := impl.ApplyEdits(deck, edits)
		if want == impl.OK {
			same(t, "ApplyEdits", made, now)
			same(t, "ApplyEdits", []int64{n, code}, []int64{20, impl.OK})
			continue
		}
		checkCode(t, label("ApplyEdits", edits), []any{made, n, code}, want)
	}
	a := impl.Card{Name: "ant", Notches: maskOf(3)}
	for _, edits := range [][]impl.Edit{
		{notchEdit("ant", 3), notchEdit("ant", 4)},
		{notchEdit("ant", 4), notchEdit("ant", 4), notchEdit("ant", 5)},
		{notchEdit("ant", 4), notchEdit("ant", 5), fillEdit("ant", 6)},
		{dropEdit(a), dropEdit(a)},
		{dropEdit(a), notchEdit("ant", 4)},
		{notchEdit("ant", 4), dropEdit(a)},
		{addEdit(a)},
		{dropEdit(a), addEdit(a), addEdit(a)},
	} {
		made, n, code := impl.ApplyEdits([]impl.Card{a}, edits)
		checkCode(t, label("ApplyEdits", edits), []any{made, n, code}, impl.ErrState)
	}
}

// MaxEdits edits may be made and undone, and no more; that there are too many comes before what does not fit, and behind what is not valid.
func TestPromise16MostEdits(t *testing.T) {
	deck := []impl.Card{{Name: "ant"}}
	var edits []impl.Edit
	for range impl.MaxEdits / 2 {
		edits = append(edits, notchEdit("ant", 70), fillEdit("ant", 70))
	}
	made, n, code := impl.ApplyEdits(deck, edits)
	same(t, "ApplyEdits", made, deck)
	same(t, "ApplyEdits", []int64{n, code}, []int64{impl.MaxEdits, impl.OK})
	checkUndo(t, deck, edits, made)
	for _, more := range [][]impl.Edit{append(slices.Clone(edits), notchEdit("ant", 70)), append(slices.Clone(edits), fillEdit("bee", 70)), append([]impl.Edit{fillEdit("ant", 70)}, edits...), slices.Repeat(edits, 50)} {
		made, n, code := impl.ApplyEdits(deck, more)
		checkCode(t, "ApplyEdits", []any{made, n, code}, impl.ErrLimit)
		undo, code := impl.UndoEdits(more)
		checkCode(t, "UndoEdits", []any{undo, code}, impl.ErrLimit)
		for _, at := range []int{0, 100, len(more) - 1} {
			wrong := slices.Clone(more)
			wrong[at].Hole = 96
			made, n, code := impl.ApplyEdits(deck, wrong)
			checkCode(t, "ApplyEdits", []any{made, n, code}, impl.ErrInvalid)
			undo, code := impl.UndoEdits(wrong)
			checkCode(t, "UndoEdits", []any{undo, code}, impl.ErrInvalid)
		}
	}
	made, n, code = impl.ApplyEdits(deck, nil)
	same(t, "no edits", made, deck)
	same(t, "no edits", []int64{n, code}, []int64{0, impl.OK})
	undo, code := impl.UndoEdits(nil)
	same(t, "no edits", []int64{int64(len(undo)), code}, []int64{0, impl.OK})
}

// Edits that are not valid are told of by all functions that take them, before anything else.
func TestEditsThatAreWrong(t *testing.T) {
	full := randomDeck(rand.New(rand.NewSource(325)), impl.MaxDeck)
	for _, e := range wrongEdits() {
		for _, deck := range [][]impl.Card{nil, {{Name: "ant"}}, {{Name: "ant", Notches: maskOf(3)}}, full} {
			after, code := impl.ApplyEdit(deck, e)
			checkCode(t, label("ApplyEdit", e), []any{after, code}, impl.ErrInvalid)
			check, code := impl.CheckAfter(7, deck, e)
			checkCode(t, label("CheckAfter", e), []any{check, code}, impl.ErrInvalid)
			for _, edits := range [][]impl.Edit{{e}, {notchEdit("ant", 5), e}, {e, notchEdit("ant", 5)}, {fillEdit("none", 5), e}} {
				after, n, code := impl.ApplyEdits(deck, edits)
				checkCode(t, label("ApplyEdits", e), []any{after, n, code}, impl.ErrInvalid)
			}
		}
		for _, edits := range [][]impl.Edit{{e}, {notchEdit("ant", 5), e}, {e, notchEdit("ant", 5)}} {
			undo, code := impl.UndoEdits(edits)
			checkCode(t, label("UndoEdits", e), []any{undo, code}, impl.ErrInvalid)
			same(t, label("EditsText", e), impl.EditsText(edits), "")
		}
	}
	for _, e := range goodEdits() {
		undo, code := impl.UndoEdits([]impl.Edit{e})
		same(t, label("UndoEdits", e), undo, undoneIn([]impl.Edit{e}))
		same(t, label("UndoEdits", e), code, int64(impl.OK))
	}
}
