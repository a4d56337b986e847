package tests

import (
	"math/rand"
	"slices"
	"testing"

	"loop.example/g01261/impl"
)

// namesOf tells the names of several decks in their order, each once.
func namesOf(decks ...[]impl.Card) []string {
	names := []string{}
	for _, deck := range decks {
		for _, c := range deck {
			if !slices.Contains(names, c.Name) {
				names = append(names, c.Name)
			}
		}
	}
	return names
}

// disputedIn tells the names of all cards in conflict.
func disputedIn(base, a, b []impl.Card) []string {
	names := []string{}
	for _, name := range namesOf(base, a, b) {
		was, one, other := stateIn(base, name), stateIn(a, name), stateIn(b, name)
		if was != one && one != other && was != other {
			names = append(names, name)
		}
	}
	return names
}

// mergedCards tells the cards that have come of base in a and in b, which are in no conflict.
func mergedCards(base, a, b []impl.Card) []impl.Card {
	deck := []impl.Card{}
	for _, name := range namesOf(base, a, b) {
		from := b
		if stateIn(b, name) == stateIn(base, name) {
			from = a
		}
		if at := placeOf(from, name); at >= 0 {
			deck = append(deck, from[at])
		}
	}
	return deck
}

// checkMergeThree checks the conflicts and the merged deck of three ones, and tells the code.
func checkMergeThree(t *testing.T, base, a, b []impl.Card) int64 {
	t.Helper()
	disputed := disputedIn(base, a, b)
	names, code := impl.ConflictsOf(base, a, b)
	same(t, label("ConflictsOf", base, a, b), names, disputed)
	sameOf(t, code, int64(impl.OK), "ConflictsOf", base, a, b)
	want, fault := mergedCards(base, a, b), int64(impl.OK)
	switch {
	case len(disputed) > 0:
		fault = impl.ErrProof
	case len(want) > impl.MaxDeck:
		fault = impl.ErrLimit
	}
	merged, code := impl.MergeThree(base, a, b)
	if fault != impl.OK {
		checkCode(t, label("MergeThree", base, a, b), []any{merged, code}, fault)
		return fault
	}
	same(t, label("MergeThree", base, a, b), merged, want)
	sameOf(t, code, int64(impl.OK), "MergeThree", base, a, b)
	sameOf(t, impl.ValidDeck(merged), true, "merged deck", merged)
	return fault
}

// cardStates are all states of a card: that there is none, and some notches, of which the first ones are none.
func cardStates(name string) [][]impl.Card {
	return [][]impl.Card{{}, {{Name: name}}, {{Name: name, Notches: maskOf(3)}}, {{Name: name, Notches: maskOf(64)}}}
}

// All states of one card in three decks, and those of two cards in either order.
func TestPromise16AllStatesOfCards(t *testing.T) {
	xs, ys := cardStates("x"), cardStates("y")
	codes := map[int64]int{}
	for i := range 64 {
		base, a, b := xs[i&3], xs[i>>2&3], xs[i>>4]
		codes[checkMergeThree(t, base, a, b)]++
		for k := range 64 {
			other, c, d := ys[k&3], ys[k>>2&3], ys[k>>4]
			checkMergeThree(t, slices.Concat(base, other), slices.Concat(c, a), slices.Concat(b, d))
		}
	}
	// Of the 64 triples of four states, 4*3*2 have three different ones.
	same(t, "conflicts", codes, map[int64]int{impl.OK: 40, impl.ErrProof: 24})
}

func TestPromise16MergedByHand(t *testing.T) {
	read := func(text string) []impl.Card {
		deck, code := impl.ReadDeck(text)
		same(t, label("ReadDeck", text), code, int64(impl.OK))
		return deck
	}
	for _, x := range []struct {
		base, a, b, want string
	}{
		{"a 3\n", "a 3 4\n", "a 3\ne\n", "a 3 4\ne\n"},
		{"a 3\nb 4\nc 5\n", "c 6\na 3\n", "b 4\nc 5\na 7\n", "a 7\nc 6\n"},
		{"", "x 1\ny 2\n", "z 3\ny 2\n", "x 1\ny 2\nz 3\n"},
		{"k\n", "new\nk\n", "other\nk\nnew\n", "k\nnew\nother\n"},
		{"a 3\n", "", "", ""},
		{"a 3\n", "", "a 3\n", ""},
		{"a 3\n", "a 3\n", "", ""},
		{"a 3\n", "a 4\n", "a 4\n", "a 4\n"},
		{"b 1\na 2\n", "a 2\nb 1\n", "a 2\nb 1\n", "b 1\na 2\n"},
		{"", "", "", ""},
	} {
		merged, code := impl.MergeThree(read(x.base), read(x.a), read(x.b))
		same(t, label("MergeThree", x), impl.DeckText(merged), x.want)
		same(t, label("MergeThree", x), code, int64(impl.OK))
		checkMergeThree(t, read(x.base), read(x.a), read(x.b))
	}
	for _, x := range []struct {
		base, a, b string
		want       []string
	}{
		{"a 3\n", "a 4\n", "a 5\n", []string{"a"}},
		{"a 3\n", "a 4\n", "", []string{"a"}},
		{"a 3\n", "", "a\n", []string{"a"}},
		{"", "a 3\n", "a 4\n", []string{"a"}},
		{"", "a\n", "a 4\n", []string{"a"}},
		{"c 1\nb 1\na 1\n", "a 2\nx 3\nd 3\nb 2\nc 1\n", "d 4\nb\nx 4\nc 3\n", []string{"b", "a", "x", "d"}},
		{"m\n", "z 1\ny 1\nm 1\n", "m 2\ny 2\nz 2\n", []string{"m", "z", "y"}},
	} {
		names, code := impl.ConflictsOf(read(x.base), read(x.a), read(x.b))
		same(t, label("ConflictsOf", x), names, x.want)
		same(t, label("ConflictsOf", x), code, int64(impl.OK))
		same(t, label("MergeThree", x), checkMergeThree(t, read(x.base), read(x.a), read(x.b)), int64(impl.ErrProof))
	}
}

func TestPromise16MergedDecks(t *testing.T) {
	r := rand.New(rand.NewSource(330))
	codes := map[int64]int{}
	for range 1500 {
		n := r.Intn(12)
		base := randomDeck(r, n)
		a := changedDeck(r, base, n+r.Intn(4))
		b := changedDeck(r, base, n+r.Intn(4))
		if r.Intn(2) == 0 { // changed by one of both alone
			for _, name := range disputedIn(base, a, b) {
				b = withState(b, base, name)
			}
		}
		codes[checkMergeThree(t, base, a, b)]++
		checkMergeThree(t, base, a, base)
		checkMergeThree(t, base, base, b)
		checkMergeThree(t, base, a, a)
		checkMergeThree(t, a, b, base)
	}
	if codes[impl.OK] < 300 || codes[impl.ErrProof] < 300 {
		t.Errorf("the codes are %v", codes)
	}
}

// withState returns a deck in which a name has the state that it has in another one.
func withState(deck, from []impl.Card, name string) []impl.Card {
	after := []impl.Card{}
	for _, c := range deck {
		if c.Name != name {
			after = append(after, c)
		}
	}
	if at := placeOf(from, name); at >= 0 {
		after = append(after, from[at])
	}
	return after
}

// A merged deck may have MaxDeck cards, and not more; conflicts come before this.
func TestPromise16FullMergedDecks(t *testing.T) {
	r := rand.New(rand.NewSource(331))
	all := randomDeck(r, 120)
	base, a, b := all[:40], all[:60], slices.Concat(all[:40], all[60:80])
	same(t, "MaxDeck cards", checkMergeThree(t, base, a, b), int64(impl.OK))
	merged, _ := impl.MergeThree(base, a, b)
	same(t, "cards", merged, all[:80])
	b = slices.Concat(all[:40], all[60:81])
	same(t, "one more", checkMergeThree(t, base, a, b), int64(impl.ErrLimit))
	same(t, "one that is gone", checkMergeThree(t, base, a, b[1:]), int64(impl.OK))
	same(t, "many more", checkMergeThree(t, nil, all[:80], all[40:]), int64(impl.ErrLimit))
	changed := slices.Clone(b)
	changed[50].Notches, changed[50].Name = maskOf(1), a[50].Name
	same(t, "a conflict", checkMergeThree(t, base, a, append(changed, all[90])), int64(impl.ErrProof))
	same(t, "the same", checkMergeThree(t, all[:80], all[:80], all[:80]), int64(impl.OK))
	same(t, "from nothing", checkMergeThree(t, nil, all[:40], all[40:80]), int64(impl.OK))
	same(t, "from nothing, one more", checkMergeThree(t, nil, all[:40], all[40:81]), int64(impl.ErrLimit))
}

// What edits of both sides make of a deck, which do not touch the same cards, is merged to what all of them make of it.
func TestPromise16MergedEdits(t *testing.T) {
	r := rand.New(rand.NewSource(332))
	for range 200 {
		base := randomDeck(r, 20)
		a := slices.Concat(changedDeck(r, base[:10], 40), base[10:])
		b := slices.Concat(base[:10], changedDeck(r, base[10:], 60))
		merged, code := impl.MergeThree(base, a, b)
		sameOf(t, code, int64(impl.OK), "MergeThree", base, a, b)
		one, _ := impl.EditsBetween(base, a)
		other, _ := impl.EditsBetween(base, b)
		made, _, code := impl.ApplyEdits(base, append(one, other...))
		sameOf(t, code, int64(impl.OK), "ApplyEdits", one, other)
		alike, _ := impl.SameCards(made, merged)
		sameOf(t, alike, true, "merged", merged, made)
	}
}
