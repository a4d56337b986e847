package tests

import (
	"math/rand"
	"testing"

	"loop.example/g01261/impl"
)

// noDeck fails the test unless a deck is empty and a code is the one that is wanted.
func noDeck(t *testing.T, what string, deck []impl.Card, code, want int64) {
	t.Helper()
	same(t, what, deck, []impl.Card{})
	same(t, what, code, want)
}

// A pass through each hole keeps the order of what stays and of what drops.
func TestPromise4OnePass(t *testing.T) {
	r := rand.New(rand.NewSource(30))
	decks := goodDecks()
	for n := range 20 {
		decks = append(decks, randomDeck(r, 4*n))
	}
	for _, deck := range decks {
		for hole := range int64(impl.Holes) {
			after, dropped := afterPass(deck, hole)
			got, n, code := impl.PassNeedle(deck, hole)
			same(t, label("PassNeedle", hole), got, after)
			same(t, label("PassNeedle", hole), []int64{n, code}, []int64{dropped, impl.OK})
			stay, drop, code := impl.SplitDeck(deck, hole)
			same(t, label("SplitDeck stay", hole), stay, after[:len(after)-int(dropped)])
			same(t, label("SplitDeck drop", hole), drop, after[len(after)-int(dropped):])
			same(t, label("SplitDeck", hole), code, int64(impl.OK))
		}
	}
}

func TestPromise4ManyPasses(t *testing.T) {
	r := rand.New(rand.NewSource(31))
	for turn := range 60 {
		deck := randomDeck(r, r.Intn(impl.MaxDeck+1))
		holes := make([]int64, turn)
		switch turn {
		case 58:
			holes = make([]int64, impl.MaxPasses)
		case 59:
			holes = make([]int64, impl.MaxPasses-1)
		}
		want := deck
		for i := range holes {
			holes[i] = r.Int63n(96)
			want, _ = afterPass(want, holes[i])
		}
		got, code := impl.PassMany(deck, holes)
		same(t, label("PassMany", holes), got, want)
		same(t, label("PassMany", holes), code, int64(impl.OK))
	}
}

// The passes are made in the order of the list: the last one decides most.
func TestPromise4OrderOfPasses(t *testing.T) {
	deck := deckOf(maskOf(1, 2), maskOf(1), maskOf(2), maskOf())
	a, b, c, d := deck[0], deck[1], deck[2], deck[3]
	for _, x := range []struct {
		holes []int64
		want  []impl.Card
	}{
		{nil, []impl.Card{a, b, c, d}},
		{[]int64{1}, []impl.Card{c, d, a, b}},
		{[]int64{2}, []impl.Card{b, d, a, c}},
		{[]int64{1, 2}, []impl.Card{d, b, c, a}},
		{[]int64{2, 1}, []impl.Card{d, c, b, a}},
		{[]int64{1, 2, 1}, []impl.Card{d, c, b, a}},
		{[]int64{1, 1}, []impl.Card{c, d, a, b}},
		{[]int64{50}, []impl.Card{a, b, c, d}},
	} {
		got, code := impl.PassMany(deck, x.holes)
		same(t, label("PassMany", x.holes), got, x.want)
		same(t, label("PassMany", x.holes), code, int64(impl.OK))
	}
}

func TestPassesAndTheirErrors(t *testing.T) {
	long := make([]int64, impl.MaxPasses+1)
	for _, deck := range goodDecks() {
		for _, hole := range noHoles() {
			after, n, code := impl.PassNeedle(deck, hole)
			noDeck(t, label("PassNeedle", hole), after, code, impl.ErrRange)
			same(t, "dropped", n, int64(0))
			stay, drop, code := impl.SplitDeck(deck, hole)
			noDeck(t, label("SplitDeck", hole), append(stay, drop...), code, impl.ErrRange)
			for _, holes := range [][]int64{{hole}, {3, hole}, {hole, 3}, append(long[:len(long):len(long)], hole), append(long[:impl.MaxPasses:impl.MaxPasses], hole)} {
				after, code := impl.PassMany(deck, holes)
				noDeck(t, label("PassMany", hole, len(holes)), after, code, impl.ErrRange)
			}
		}
		after, code := impl.PassMany(deck, long)
		noDeck(t, "too many passes", after, code, impl.ErrLimit)
		after, code = impl.PassMany(deck, make([]int64, 100000))
		noDeck(t, "far too many passes", after, code, impl.ErrLimit)
		_, code = impl.PassMany(deck, long[:impl.MaxPasses])
		same(t, "as many passes as may be", code, int64(impl.OK))
	}
	for _, deck := range wrongDecks() {
		for _, hole := range []int64{3, 95, -1, 96} {
			after, n, code := impl.PassNeedle(deck, hole)
			noDeck(t, "PassNeedle wrong", after, code, impl.ErrInvalid)
			same(t, "dropped", n, int64(0))
			stay, drop, code := impl.SplitDeck(deck, hole)
			noDeck(t, "SplitDeck wrong", append(stay, drop...), code, impl.ErrInvalid)
			for _, holes := range [][]int64{nil, {hole}, append(long[:len(long):len(long)], hole)} {
				after, code := impl.PassMany(deck, holes)
				noDeck(t, "PassMany wrong", after, code, impl.ErrInvalid)
			}
		}
	}
}

// The holes and the keys of each kind and Size, whatever is notched.
func TestPromise4HolesAndKeys(t *testing.T) {
	r := rand.New(rand.NewSource(32))
	for _, f := range fieldsAtPlaces() {
		holes, code := impl.HolesToSort(f)
		same(t, label("HolesToSort", f), holes, orderOf(f))
		same(t, "HolesToSort code", code, int64(impl.OK))
		masks := []impl.Mask{{}, fullMask, partMask(f), lessOf(fullMask, partMask(f)), randomMask(r), randomMask(r), randomMask(r)}
		for _, hole := range holesIn(partMask(f)) {
			masks = append(masks, maskOf(hole))
		}
		for _, m := range masks {
			key, code := impl.KeyOf(f, m)
			same(t, label("KeyOf", f, holesIn(m)), []int64{key, code}, []int64{keyIn(f, m), impl.OK})
		}
		for _, m := range invalidMasks() {
			key, code := impl.KeyOf(f, m)
			same(t, label("KeyOf wrong", f), []int64{key, code}, []int64{0, impl.ErrInvalid})
		}
	}
	for _, f := range wrongFields() {
		holes, code := impl.HolesToSort(f)
		same(t, "HolesToSort wrong", holes, []int64{})
		same(t, "HolesToSort wrong", code, int64(impl.ErrInvalid))
		for _, m := range []impl.Mask{{}, fullMask, maskOf(96)} {
			key, code := impl.KeyOf(f, m)
			same(t, "KeyOf wrong", []int64{key, code}, []int64{0, impl.ErrInvalid})
		}
	}
}

// The keys that the document tells, or that follow from it at once, as numbers.
func TestPromise4KeysAsNumbers(t *testing.T) {
	for _, x := range []struct {
		f     impl.Field
		holes []int64
		key   int64
	}{
		{impl.Field{Name: "p", Kind: impl.KdPairs, Start: 0, Size: 1}, []int64{0, 1}, 24},
		{impl.Field{Name: "p", Kind: impl.KdPairs, Start: 0, Size: 1}, []int64{3, 4}, 3},
		{impl.Field{Name: "p", Kind: impl.KdPairs, Start: 60, Size: 4}, []int64{60}, 1 << 19},
		{impl.Field{Name: "s", Kind: impl.KdSum, Start: 10, Size: 2}, []int64{12, 13, 14, 17}, 0x39},
		{impl.Field{Name: "s", Kind: impl.KdSum, Start: 80, Size: 4}, []int64{95, 80}, 0x8001},
		{impl.Field{Name: "b", Kind: impl.KdBinary, Start: 20, Size: 3}, []int64{20, 22, 23}, 5},
		{impl.Field{Name: "b", Kind: impl.KdBinary, Start: 20, Size: 3}, []int64{23}, 0},
		{impl.Field{Name: "d", Kind: impl.KdDirect, Start: 60, Size: 24}, []int64{60}, 1},
		{impl.Field{Name: "d", Kind: impl.KdDirect, Start: 60, Size: 24}, []int64{83, 60}, 1<<23 + 1},
		{impl.Field{Name: "d", Kind: impl.KdDirect, Start: 60, Size: 24}, []int64{59, 84}, 0},
	} {
		key, code := impl.KeyOf(x.f, maskOf(x.holes...))
		same(t, label("KeyOf", x), []int64{key, code}, []int64{x.key, impl.OK})
	}
	for size := int16(1); size <= 12; size++ {
		f := impl.Field{Name: "b", Kind: impl.KdBinary, Start: 58, Size: size}
		for value := range int64(1) << size {
			key, _ := impl.KeyOf(f, maskOf(codeOf(f, value)...))
			if key != value {
				t.Fatalf("KeyOf of %d in %v: got %d", value, f, key)
			}
		}
	}
}

// A deck that is sorted by passes is in order, has the same cards, and those with equal keys as they were.
func TestPromise4SortedDecks(t *testing.T) {
	r := rand.New(rand.NewSource(33))
	for _, f := range fieldsAtPlaces() {
		for _, n := range []int{0, 1, 2, 12, 30, impl.MaxDeck} {
			deck := deckWith(r, f, n)
			want := sortedBy(deck, f)
			sorted, code := impl.SortDeck(deck, f)
			same(t, label("SortDeck", f, n), sorted, want)
			same(t, label("SortDeck", f, n), code, int64(impl.OK))
			holes, _ := impl.HolesToSort(f)
			passed, code := impl.PassMany(deck, holes)
			same(t, label("PassMany", f, n), passed, want)
			same(t, label("PassMany", f, n), code, int64(impl.OK))
			yes, code := impl.IsSorted(sorted, f)
			same(t, label("IsSorted", f, n), []any{yes, code}, []any{true, int64(impl.OK)})
			in := true
			for i := 1; i < n; i++ {
				in = in && keyIn(f, deck[i].Notches) >= keyIn(f, deck[i-1].Notches)
			}
			yes, code = impl.IsSorted(deck, f)
			same(t, label("IsSorted before", f, n), []any{yes, code}, []any{in, int64(impl.OK)})
		}
	}
}

// One card out of its place is seen, wherever it is.
func TestPromise4OneCardOutOfPlace(t *testing.T) {
	f := impl.Field{Name: "b", Kind: impl.KdBinary, Start: 60, Size: 7}
	var deck []impl.Card
	for i := range impl.MaxDeck {
		deck = append(deck, impl.Card{Name: nameOf(i), Notches: maskOf(codeOf(f, int64(i))...)})
	}
	yes, code := impl.IsSorted(deck, f)
	same(t, "in order", []any{yes, code}, []any{true, int64(impl.OK)})
	for i := 1; i < len(deck); i++ {
		changed := append([]impl.Card{}, deck...)
		changed[i-1], changed[i] = deck[i], deck[i-1]
		yes, code := impl.IsSorted(changed, f)
		same(t, label("out of order", i), []any{yes, code}, []any{false, int64(impl.OK)})
		changed[i-1], changed[i] = deck[i-1], deck[i]
		changed[i].Notches = deck[i-1].Notches
		yes, code = impl.IsSorted(changed, f)
		same(t, label("equal keys", i), []any{yes, code}, []any{true, int64(impl.OK)})
	}
}

func TestSortedDecksAndWhatIsWrong(t *testing.T) {
	good := impl.Field{Name: "f", Kind: impl.KdSum, Start: 60, Size: 2}
	for _, deck := range wrongDecks() {
		for _, f := range []impl.Field{good, {}} {
			sorted, code := impl.SortDeck(deck, f)
			noDeck(t, "SortDeck wrong", sorted, code, impl.ErrInvalid)
			yes, code := impl.IsSorted(deck, f)
			same(t, "IsSorted wrong", []any{yes, code}, []any{false, int64(impl.ErrInvalid)})
			at, code := impl.FirstFrom(deck, f, 0)
			same(t, "FirstFrom wrong", []int64{at, code}, []int64{0, impl.ErrInvalid})
			merged, code := impl.MergeDecks(deck, nil, f)
			noDeck(t, "MergeDecks wrong a", merged, code, impl.ErrInvalid)
			merged, code = impl.MergeDecks(nil, deck, f)
			noDeck(t, "MergeDecks wrong b", merged, code, impl.ErrInvalid)
		}
	}
	for _, deck := range goodDecks() {
		for _, f := range wrongFields() {
			sorted, code := impl.SortDeck(deck, f)
			noDeck(t, "SortDeck wrong field", sorted, code, impl.ErrInvalid)
			yes, code := impl.IsSorted(deck, f)
			same(t, "IsSorted wrong field", []any{yes, code}, []any{false, int64(impl.ErrInvalid)})
			at, code := impl.FirstFrom(deck, f, 0)
			same(t, "FirstFrom wrong field", []int64{at, code}, []int64{0, impl.ErrInvalid})
			merged, code := impl.MergeDecks(deck, deck, f)
			noDeck(t, "MergeDecks wrong field", merged, code, impl.ErrInvalid)
		}
	}
}

// Of cards with equal keys those of a come first: so a merged deck is both decks behind each other, sorted.
func TestPromise4MergedDecks(t *testing.T) {
	r := rand.New(rand.NewSource(34))
	for _, f := range fieldsAtPlaces() {
		for _, sizes := range [][2]int{{0, 0}, {0, 5}, {5, 0}, {1, 1}, {7, 9}, {20, 3}, {2, 31}, {40, 40}, {80, 0}, {1, 79}} {
			all := deckWith(r, f, sizes[0]+sizes[1])
			r.Shuffle(len(all), func(i, k int) { all[i], all[k] = all[k], all[i] })
			a, b := sortedBy(all[:sizes[0]], f), sortedBy(all[sizes[0]:], f)
			want := sortedBy(append(append([]impl.Card{}, a...), b...), f)
			merged, code := impl.MergeDecks(a, b, f)
			same(t, label("MergeDecks", f, sizes), merged, want)
			same(t, label("MergeDecks", f, sizes), code, int64(impl.OK))
			yes, _ := impl.IsSorted(merged, f)
			same(t, label("merged", f, sizes), yes, true)
		}
	}
}

func TestMergedDecksAndTheirErrors(t *testing.T) {
	f := impl.Field{Name: "b", Kind: impl.KdBinary, Start: 3, Size: 4}
	card := func(name string, value int64) impl.Card {
		return impl.Card{Name: name, Notches: maskOf(codeOf(f, value)...)}
	}
	up, down := []impl.Card{card("a", 1), card("b", 2)}, []impl.Card{card("a", 2), card("b", 1)}
	more := []impl.Card{card("b", 0), card("c", 3)}
	full := deckOf(make([]impl.Mask, impl.MaxDeck)...)
	one := []impl.Card{{Name: nameOf(79)}}
	other := []impl.Card{{Name: "z"}}
	unsorted := append([]impl.Card{card("x", 15)}, full[1:]...)
	for _, x := range []struct {
		what string
		a, b []impl.Card
		code int64
	}{
		{"a is not sorted", down, nil, impl.ErrState},
		{"b is not sorted", nil, down, impl.ErrState},
		{"not sorted, and the names are in both", down, up, impl.ErrState},
		{"not sorted, and the names are in both", up, down, impl.ErrState},
		{"not sorted, and too many", unsorted, other, impl.ErrState},
		{"not sorted, and too many, and a name is in both", full, unsorted, impl.ErrState},
		{"too many", full, other, impl.ErrLimit},
		{"too many", other, full, impl.ErrLimit},
		{"too many, and a name is in both", full, one, impl.ErrLimit},
		{"too many, and all names are in both", full, full, impl.ErrLimit},
		{"all names are in both", up, up, impl.ErrProof},
		{"a name is in both", up, more, impl.ErrProof},
		{"a name is in both", more, up, impl.ErrProof},
		{"a name is in both, of as many cards as may be", full[:79], []impl.Card{full[78]}, impl.ErrProof},
		{"as many cards as may be", full[:79], one, impl.OK},
		{"nothing", nil, nil, impl.OK},
	} {
		merged, code := impl.MergeDecks(x.a, x.b, f)
		same(t, x.what, code, x.code)
		if x.code != impl.OK {
			same(t, x.what, merged, []impl.Card{})
		}
	}
}

func TestPromise4FirstFrom(t *testing.T) {
	r := rand.New(rand.NewSource(35))
	for _, f := range fieldsAtPlaces() {
		for _, n := range []int{0, 1, 2, 17, impl.MaxDeck} {
			deck := sortedBy(deckWith(r, f, n), f)
			keys := []int64{-1 << 63, -1, 0, 1, 1 << 24, 1<<63 - 1}
			var had []int64
			for _, c := range deck {
				key := keyIn(f, c.Notches)
				had = append(had, key)
				if r.Intn(3) == 0 {
					keys = append(keys, key-1, key, key+1)
				}
			}
			for _, key := range keys {
				want := int64(0)
				for int(want) < n && had[want] < key {
					want++
				}
				at, code := impl.FirstFrom(deck, f, key)
				same(t, label("FirstFrom", f, n, key), []int64{at, code}, []int64{want, impl.OK})
			}
			if n < 2 || had[n-1] == had[0] {
				continue
			}
			deck[0], deck[n-1] = deck[n-1], deck[0]
			for _, key := range keys {
				at, code := impl.FirstFrom(deck, f, key)
				same(t, label("FirstFrom not sorted", f, n, key), []int64{at, code}, []int64{0, impl.ErrState})
			}
		}
	}
}

// The example of the chapter.
func TestPromise4ExampleOfChapter2(t *testing.T) {
	f := impl.Field{Name: "b", Kind: impl.KdBinary, Start: 0, Size: 2}
	holes, _ := impl.HolesToSort(f)
	same(t, "HolesToSort", holes, []int64{1, 0})
	var deck []impl.Card
	for i, value := range []int64{2, 0, 3, 1} {
		deck = append(deck, impl.Card{Name: nameOf(i), Notches: maskOf(codeOf(f, value)...)})
	}
	sorted, code := impl.SortDeck(deck, f)
	same(t, "SortDeck", sorted, []impl.Card{deck[1], deck[3], deck[0], deck[2]})
	same(t, "SortDeck", code, int64(impl.OK))
}
