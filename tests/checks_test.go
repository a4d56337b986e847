package tests

import (
	"math/rand"
	"slices"
	"testing"

	"loop.example/g01261/impl"
)

// checkHash checks the hash of a card against numbers without end.
func checkHash(t *testing.T, c impl.Card) {
	t.Helper()
	hash, code := impl.HashCard(c)
	sameOf(t, []any{hash, code}, []any{hashIn(c), int64(impl.OK)}, "HashCard", c)
}

func TestHashesOfCards(t *testing.T) {
	r := rand.New(rand.NewSource(310))
	for _, deck := range goodDecks() {
		for _, c := range deck {
			checkHash(t, c)
		}
	}
	for hole := range int64(96) {
		checkHash(t, impl.Card{Name: "ant", Notches: maskOf(hole)})
	}
	for range 200 {
		checkHash(t, impl.Card{Name: randomWord(r), Notches: randomMask(r)})
	}
}

// The first hash is found by hand: each step is put together with one number and multiplied once.
func TestHashByHand(t *testing.T) {
	const factor = 1099511628211
	hash := uint64(14695981039346656037)
	for _, number := range []uint64{'a', 'b', 1<<3 | 1<<63, 1<<0 | 1<<31} {
		hash ^= number
		hash *= factor
	}
	got, code := impl.HashCard(impl.Card{Name: "ab", Notches: maskOf(3, 63, 64, 95)})
	same(t, "HashCard", []any{got, code}, []any{hash, int64(impl.OK)})
}

// Cards that differ in one letter, or in one hole, have other hashes.
func TestHashesOfOtherCards(t *testing.T) {
	c := impl.Card{Name: "ant", Notches: maskOf(3, 70)}
	seen := map[uint64]impl.Card{}
	cards := []impl.Card{c, {Name: "tan", Notches: c.Notches}, {Name: "an", Notches: c.Notches}, {Name: "ants", Notches: c.Notches}, {Name: "ant"}, {Name: "ant", Notches: impl.Mask{c.Notches[1], c.Notches[0] & 0xffffffff}}}
	for hole := range int64(96) {
		turned := c
		turned.Notches[hole/64] ^= 1 << (hole % 64)
		cards = append(cards, turned)
	}
	for _, d := range cards {
		hash, _ := impl.HashCard(d)
		if other, has := seen[hash]; has {
			t.Errorf("%v and %v have the same hash", d, other)
		}
		seen[hash] = d
	}
}

// The check of a deck does not depend on the order of its cards.
func TestChecksOfDecks(t *testing.T) {
	r := rand.New(rand.NewSource(311))
	for _, deck := range goodDecks() {
		for range 4 {
			check, code := impl.CheckOfDeck(shuffled(r, deck))
			sameOf(t, []any{check, code}, []any{sumIn(deck), int64(impl.OK)}, "CheckOfDeck", deck)
		}
	}
	check, _ := impl.CheckOfDeck(nil)
	same(t, "check of nothing", check, uint64(0))
}

// sameCardsIn tells whether each card of one deck is in the other one, and there are as many.
func sameCardsIn(a, b []impl.Card) bool {
	for _, c := range a {
		if !slices.Contains(b, c) {
			return false
		}
	}
	return len(a) == len(b)
}

func checkSameCards(t *testing.T, a, b []impl.Card, want bool) {
	t.Helper()
	sameOf(t, sameCardsIn(a, b), want, "decks", a, b)
	for _, two := range [][2][]impl.Card{{a, b}, {b, a}} {
		got, code := impl.SameCards(two[0], two[1])
		sameOf(t, []any{got, code}, []any{want, int64(impl.OK)}, "SameCards", a, b)
	}
}

func TestSameCards(t *testing.T) {
	r := rand.New(rand.NewSource(312))
	for _, deck := range goodDecks() {
		for range 5 {
			checkSameCards(t, deck, shuffled(r, deck), true)
		}
		if len(deck) == 0 {
			continue
		}
		at := r.Intn(len(deck))
		other := shuffled(r, deck)
		other[at].Notches[0] ^= 1 << 40 // the same names, and other notches
		checkSameCards(t, deck, other, false)
		other = shuffled(r, deck)
		other[at].Notches[1] ^= 1 << 31
		checkSameCards(t, deck, other, false)
		other = shuffled(r, deck)
		other[at].Name = "other"
		checkSameCards(t, deck, other, false)
		other = shuffled(r, deck)
		checkSameCards(t, deck, slices.Delete(other, at, at+1), false)
		checkSameCards(t, deck, nil, false)
	}
	// As many cards, of which all but one are the same; and notches that are exchanged between two names.
	checkSameCards(t, deckOf(maskOf(3), maskOf(4)), deckOf(maskOf(3), maskOf(3)), false)
	checkSameCards(t, deckOf(maskOf(3), maskOf(4)), deckOf(maskOf(4), maskOf(3)), false)
	checkSameCards(t, deckOf(maskOf(3), impl.Mask{}), deckOf(maskOf(3)), false)
	checkSameCards(t, []impl.Card{{Name: "ant"}}, []impl.Card{{Name: "bee"}}, false)
}

// duplicatesIn tells the groups of cards with equal notches, each card against each other one.
func duplicatesIn(deck []impl.Card) [][]int64 {
	groups := [][]int64{}
	grouped := map[int]bool{}
	for i := range deck {
		group := []int64{int64(i)}
		for k := i + 1; k < len(deck); k++ {
			if !grouped[i] && !grouped[k] && deck[i].Notches == deck[k].Notches {
				group = append(group, int64(k))
				grouped[k] = true
			}
		}
		if len(group) > 1 {
			groups = append(groups, group)
		}
	}
	return groups
}

func checkDuplicates(t *testing.T, deck []impl.Card) {
	t.Helper()
	groups, code := impl.DuplicatesOf(deck)
	if len(groups) == 0 {
		groups = [][]int64{}
	}
	sameOf(t, groups, duplicatesIn(deck), "DuplicatesOf", deck)
	sameOf(t, code, int64(impl.OK), "DuplicatesOf", deck)
}

func TestDuplicates(t *testing.T) {
	r := rand.New(rand.NewSource(313))
	for _, deck := range goodDecks() {
		checkDuplicates(t, deck)
	}
	for range 300 {
		masks := make([]impl.Mask, r.Intn(impl.MaxDeck+1))
		kinds := 1 + r.Intn(20)
		for i := range masks {
			masks[i] = maskOf(int64(4*r.Intn(kinds)) + 3)
		}
		checkDuplicates(t, deckOf(masks...))
	}
}

func TestDuplicatesByHand(t *testing.T) {
	a, b, c, none := maskOf(3), maskOf(67), maskOf(3, 67), impl.Mask{}
	for _, x := range []struct {
		deck []impl.Card
		want [][]int64
	}{
		{deckOf(), [][]int64{}},
		{deckOf(a), [][]int64{}},
		{deckOf(a, b, c, none), [][]int64{}},
		{deckOf(a, a), [][]int64{{0, 1}}},
		{deckOf(none, a, none), [][]int64{{0, 2}}},
		{deckOf(c, a, b, a, b, c, a), [][]int64{{0, 5}, {1, 3, 6}, {2, 4}}},
		{deckOf(c, b, a, a, b), [][]int64{{1, 4}, {2, 3}}},
		{deckOf(slices.Repeat([]impl.Mask{b}, impl.MaxDeck)...), [][]int64{indicesIn(impl.MaxDeck)}},
	} {
		sameOf(t, duplicatesIn(x.deck), x.want, "duplicatesIn", x.deck)
		checkDuplicates(t, x.deck)
	}
}

func TestDistances(t *testing.T) {
	r := rand.New(rand.NewSource(314))
	masks := []impl.Mask{{}, fullMask, maskOf(0), maskOf(63), maskOf(64), maskOf(95), maskOf(0, 95), {^uint64(0), 0}, {0, 0xffffffff}}
	for range 20 {
		masks = append(masks, randomMask(r))
	}
	for _, m := range masks {
		for _, n := range masks {
			far, code := impl.DistanceOf(m, n)
			sameOf(t, []int64{far, code}, []int64{apart(m, n, fullMask), impl.OK}, "DistanceOf", m, n)
		}
	}
	far, _ := impl.DistanceOf(impl.Mask{}, fullMask)
	same(t, "the greatest distance", far, int64(96))
	for _, m := range invalidMasks() {
		for _, n := range append(invalidMasks(), masks[:4]...) {
			far, code := impl.DistanceOf(m, n)
			checkCode(t, "DistanceOf", []any{far, code}, impl.ErrInvalid)
			far, code = impl.DistanceOf(n, m)
			checkCode(t, "DistanceOf", []any{far, code}, impl.ErrInvalid)
		}
	}
}

// checkNearest checks that just those cards are told of which none is nearer, and tells how many there are.
func checkNearest(t *testing.T, deck []impl.Card, m impl.Mask) int {
	t.Helper()
	near, least, code := impl.NearestCards(deck, m)
	sameOf(t, code, int64(impl.OK), "NearestCards", deck, m)
	want := []int64{}
	for i, c := range deck {
		far := apart(c.Notches, m, fullMask)
		if far < least {
			t.Errorf("the card %d of %v is nearer to %v than %d", i, deck, m, least)
		}
		if far == least {
			want = append(want, int64(i))
		}
	}
	sameOf(t, near, want, "NearestCards", deck, m)
	if len(near) == 0 {
		t.Errorf("no card of %v is at the distance %d from %v", deck, least, m)
	}
	return len(near)
}

func TestPromise17NearestCards(t *testing.T) {
	r := rand.New(rand.NewSource(315))
	several := 0
	for _, deck := range goodDecks()[2:] {
		for _, m := range append([]impl.Mask{{}, fullMask, maskOf(3)}, randomMasks(r, 20)...) {
			checkNearest(t, deck, m)
		}
		for _, c := range deck {
			checkNearest(t, deck, c.Notches)
		}
	}
	for range 500 {
		masks := make([]impl.Mask, 1+r.Intn(impl.MaxDeck))
		for i := range masks {
			masks[i] = wornBy(maskOf(3, 64), randomSmallWear(r))
		}
		if checkNearest(t, deckOf(masks...), wornBy(maskOf(3, 64), randomSmallWear(r))) > 1 {
			several++
		}
	}
	if several < 50 {
		t.Errorf("just %d masks have several nearest cards", several)
	}
}

func TestPromise17NearestByHand(t *testing.T) {
	deck := deckOf(maskOf(3), maskOf(4), maskOf(3), maskOf(4, 70), impl.Mask{})
	for _, x := range []struct {
		m     impl.Mask
		near  []int64
		least int64
	}{
		{maskOf(3), []int64{0, 2}, 0},
		{maskOf(3, 4), []int64{0, 1, 2}, 1},
		{maskOf(4, 70), []int64{3}, 0},
		{maskOf(70), []int64{3, 4}, 1},
		{maskOf(95), []int64{4}, 1},
		{impl.Mask{}, []int64{4}, 0},
		{fullMask, []int64{3}, 94},
	} {
		near, least, code := impl.NearestCards(deck, x.m)
		same(t, label("NearestCards", x.m), near, x.near)
		same(t, label("NearestCards", x.m), []int64{least, code}, []int64{x.least, impl.OK})
	}
	// All holes away from the only card.
	near, least, code := impl.NearestCards(deckOf(impl.Mask{}), fullMask)
	same(t, "one card", []any{len(near), least, code}, []any{1, int64(96), int64(impl.OK)})
	for _, none := range [][]impl.Card{nil, {}} {
		near, least, code := impl.NearestCards(none, maskOf(3))
		checkCode(t, "no cards", []any{near, least, code}, impl.ErrNotFound)
		near, least, code = impl.NearestCards(none, maskOf(96))
		checkCode(t, "no cards", []any{near, least, code}, impl.ErrInvalid)
	}
}
