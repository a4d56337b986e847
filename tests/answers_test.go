package tests

import (
	"math/rand"
	"slices"
	"testing"

	"loop.example/g01261/impl"
)

// sameAnswer fails the test if two answers are not deeply equal.
func sameAnswer(t *testing.T, got, want impl.Answer, what ...any) {
	t.Helper()
	if got.Query != want.Query || label(got.In) != label(want.In) || label(got.Out) != label(want.Out) {
		t.Errorf("%s: got %v, want %v", label(what...), got, want)
	}
}

// checkAnswer checks that an answer is accepted if it is right, and what its first fault is otherwise. It tells this.
func checkAnswer(t *testing.T, deck []impl.Card, a impl.Answer) int64 {
	t.Helper()
	want := faultIn(deck, a)
	accepted, code := impl.CheckAnswer(deck, a)
	sameOf(t, []any{accepted, code}, []any{want == int64(len(deck)), int64(impl.OK)}, "CheckAnswer", deck, a)
	fault, code := impl.FirstFault(deck, a)
	if want == int64(len(deck)) {
		checkCode(t, label("FirstFault", deck, a), []any{fault, code}, impl.ErrNotFound)
	} else {
		sameOf(t, []int64{fault, code}, []int64{want, impl.OK}, "FirstFault", deck, a)
	}
	return want
}

// checkMade checks the answer of a deck, and that it is accepted.
func checkMade(t *testing.T, deck []impl.Card, q impl.Query) impl.Answer {
	t.Helper()
	a, code := impl.MakeAnswer(deck, q)
	sameOf(t, code, int64(impl.OK), "MakeAnswer", deck, q)
	sameAnswer(t, a, rightAnswer(deck, q), "MakeAnswer", deck, q)
	accepted, code := impl.CheckAnswer(deck, a)
	sameOf(t, []any{accepted, code}, []any{true, int64(impl.OK)}, "CheckAnswer", deck, a)
	fault, code := impl.FirstFault(deck, a)
	sameOf(t, []int64{fault, code}, []int64{0, impl.ErrNotFound}, "FirstFault", deck, a)
	in, _ := impl.AnswerOf(deck, q)
	same(t, "AnswerOf", in, a.In)
	return a
}

func TestPromise15AnswersAreAccepted(t *testing.T) {
	r := rand.New(rand.NewSource(300))
	queries := []impl.Query{{}, {All: fullMask}, {None: fullMask}, {All: maskOf(95), None: maskOf(0)}, {All: maskOf(64), None: maskOf(63)}}
	for range 60 {
		queries = append(queries, randomQuery(r))
	}
	for _, deck := range goodDecks() {
		for _, q := range queries {
			checkMade(t, deck, q)
		}
	}
	for range 300 {
		checkMade(t, randomDeck(r, r.Intn(impl.MaxDeck+1)), randomQuery(r))
	}
}

func TestPromise15AnswersByHand(t *testing.T) {
	deck := []impl.Card{{Name: "a", Notches: maskOf(3)}, {Name: "b", Notches: maskOf(4)}, {Name: "c", Notches: maskOf(3, 4)}}
	for _, x := range []struct {
		q   impl.Query
		in  []int64
		out []impl.Witness
	}{
		{impl.Query{All: maskOf(3)}, []int64{0, 2}, []impl.Witness{{Card: 1, Hole: 3}}},
		{impl.Query{None: maskOf(3)}, []int64{1}, []impl.Witness{{Card: 0, Hole: 3}, {Card: 2, Hole: 3}}},
		{impl.Query{All: maskOf(3, 4)}, []int64{2}, []impl.Witness{{Card: 0, Hole: 4}, {Card: 1, Hole: 3}}},
		{impl.Query{None: maskOf(3, 4)}, nil, []impl.Witness{{Card: 0, Hole: 3}, {Card: 1, Hole: 4}, {Card: 2, Hole: 3}}},
		{impl.Query{All: maskOf(4), None: maskOf(3)}, []int64{1}, []impl.Witness{{Card: 0, Hole: 3}, {Card: 2, Hole: 3}}},
		{impl.Query{All: maskOf(3), None: maskOf(4)}, []int64{0}, []impl.Witness{{Card: 1, Hole: 3}, {Card: 2, Hole: 4}}},
		{impl.Query{All: maskOf(70, 95), None: maskOf(3)}, nil, []impl.Witness{{Card: 0, Hole: 3}, {Card: 1, Hole: 70}, {Card: 2, Hole: 3}}},
		{impl.Query{All: maskOf(95), None: maskOf(94)}, nil, []impl.Witness{{Card: 0, Hole: 95}, {Card: 1, Hole: 95}, {Card: 2, Hole: 95}}},
		{impl.Query{}, []int64{0, 1, 2}, nil},
	} {
		sameAnswer(t, checkMade(t, deck, x.q), impl.Answer{Query: x.q, In: x.in, Out: x.out}, "by hand")
	}
}

// A query without holes drops all cards, so that there is no witness for any.
func TestPromise15QueryWithoutHoles(t *testing.T) {
	r := rand.New(rand.NewSource(301))
	for _, n := range []int{0, 1, 5, impl.MaxDeck} {
		deck := randomDeck(r, n)
		a := checkMade(t, deck, impl.Query{})
		same(t, "In", a.In, indicesIn(n))
		same(t, "Out", a.Out, []impl.Witness{})
		for i := range n {
			for _, hole := range []int16{0, 3, 95, 96, -1} {
				b := copyOf(a)
				b.In = slices.Delete(b.In, i, i+1)
				b.Out = []impl.Witness{{Card: int64(i), Hole: hole}}
				same(t, "no witness", checkAnswer(t, deck, b), int64(i))
			}
		}
	}
}

// The empty deck has one answer, in which nothing is told of any card.
func TestPromise15EmptyDeck(t *testing.T) {
	for _, deck := range [][]impl.Card{nil, {}} {
		for _, q := range []impl.Query{{}, {All: maskOf(3)}, {None: fullMask}} {
			a := checkMade(t, deck, q)
			same(t, "cards", len(a.In)+len(a.Out), 0)
			for _, card := range []int64{0, 1, -1, 1 << 40} {
				same(t, "In", checkAnswer(t, deck, impl.Answer{Query: q, In: []int64{card}}), int64(-1))
				same(t, "Out", checkAnswer(t, deck, impl.Answer{Query: q, Out: []impl.Witness{{Card: card, Hole: 3}}}), int64(-1))
			}
		}
	}
}

// smallLists are all lists of at most two numbers from -1 to 2.
func smallLists() [][]int64 {
	lists := [][]int64{{}}
	for i := int64(-1); i < 3; i++ {
		lists = append(lists, []int64{i})
		for k := int64(-1); k < 3; k++ {
			lists = append(lists, []int64{i, k})
		}
	}
	return lists
}

// smallAnswers are all answers of a query with lists of at most two cards and witnesses at two holes.
func smallAnswers(q impl.Query, tell func(a impl.Answer)) {
	holes := []int16{3, 64}
	for _, in := range smallLists() {
		for _, cards := range smallLists() {
			for way := range 1 << len(cards) {
				a := impl.Answer{Query: q, In: in}
				for i, card := range cards {
					a.Out = append(a.Out, impl.Witness{Card: card, Hole: holes[way>>i&1]})
				}
				tell(a)
			}
		}
	}
}

// Of all small answers to small decks just those are accepted that are right.
func TestPromise15AllSmallAnswers(t *testing.T) {
	masks := []impl.Mask{{}, maskOf(3), maskOf(64), maskOf(3, 64)}
	queries := []impl.Query{{}, {All: masks[1]}, {None: masks[2]}, {All: masks[1], None: masks[2]}, {All: masks[3]}, {None: masks[3]}}
	accepted := 0
	for _, q := range queries {
		for _, m := range masks {
			for _, n := range masks {
				deck := deckOf(m, n)
				smallAnswers(q, func(a impl.Answer) {
					if checkAnswer(t, deck, a) == 2 {
						accepted++
						same(t, "cards", a.In, answerIn(deck, q))
					}
				})
			}
		}
	}
	if accepted < 100 {
		t.Errorf("just %d answers are accepted", accepted)
	}
}

// spoiltAnswers are ways to spoil a right answer to a deck; each needs a card that drops, i, and one that does not, with the place k in Out.
func spoiltAnswers(a impl.Answer, i, k int, n int64) map[string]impl.Answer {
	list := map[string]impl.Answer{}
	add := func(what string, spoil func(b *impl.Answer)) {
		b := copyOf(a)
		spoil(&b)
		list[what] = b
	}
	card, w := a.In[i], a.Out[k]
	add("a card of In left out", func(b *impl.Answer) { b.In = slices.Delete(b.In, i, i+1) })
	add("a card of Out left out", func(b *impl.Answer) { b.Out = slices.Delete(b.Out, k, k+1) })
	add("a card of In twice", func(b *impl.Answer) { b.In = slices.Insert(b.In, i, card) })
	add("a card of Out twice", func(b *impl.Answer) { b.Out = slices.Insert(b.Out, k, w) })
	add("a card of In also in Out", func(b *impl.Answer) {
		b.Out = append(b.Out, impl.Witness{Card: card, Hole: w.Hole})
		slices.SortFunc(b.Out, func(x, y impl.Witness) int { return int(x.Card - y.Card) })
	})
	add("a card of Out also in In", func(b *impl.Answer) { b.In = append(b.In, w.Card); slices.Sort(b.In) })
	add("a card moved to In", func(b *impl.Answer) {
		b.Out = slices.Delete(b.Out, k, k+1)
		b.In = append(b.In, w.Card)
		slices.Sort(b.In)
	})
	for _, at := range []int64{-1, n, n + 1, 1 << 32, 1<<32 + card, -1 << 63, 1<<63 - 1} {
		add(label("an index that is none in In", at), func(b *impl.Answer) { b.In[i] = at })
		add(label("an index that is none in Out", at), func(b *impl.Answer) { b.Out[k].Card = at })
		add(label("an index that is none behind In", at), func(b *impl.Answer) { b.In = append(b.In, at) })
		add(label("an index that is none behind Out", at), func(b *impl.Answer) { b.Out = append(b.Out, impl.Witness{Card: at, Hole: w.Hole}) })
	}
	for _, hole := range []int16{-1, -2, 96, 97, 128, 256, 32767, -32768, w.Hole + 256, w.Hole - 128} {
		add(label("a hole that is none", hole), func(b *impl.Answer) { b.Out[k].Hole = hole })
	}
	add("In backwards", func(b *impl.Answer) { slices.Reverse(b.In) })
	add("Out backwards", func(b *impl.Answer) { slices.Reverse(b.Out) })
	add("no In", func(b *impl.Answer) { b.In = nil })
	add("no Out", func(b *impl.Answer) { b.Out = nil })
	return list
}

// Answers that are almost right are not accepted, and their first fault is told.
func TestPromise15SpoiltAnswers(t *testing.T) {
	r := rand.New(rand.NewSource(302))
	tried := 0
	for range 150 {
		n := 4 + r.Intn(impl.MaxDeck-3)
		deck := randomDeck(r, n)
		a := rightAnswer(deck, randomQuery(r))
		if len(a.In) < 2 || len(a.Out) < 2 {
			continue
		}
		tried++
		for what, b := range spoiltAnswers(a, r.Intn(len(a.In)), r.Intn(len(a.Out)), int64(n)) {
			if checkAnswer(t, deck, b) == int64(n) {
				t.Errorf("%s: %v has become right", what, b)
			}
		}
	}
	if tried < 60 {
		t.Errorf("just %d answers are spoilt", tried)
	}
}

// Every hole is tried as the witness of every card: just those are accepted at which a card is not notched, but asked to be, or is and must not be.
func TestPromise15EveryHoleAsWitness(t *testing.T) {
	r := rand.New(rand.NewSource(303))
	q := impl.Query{All: maskOf(0, 5, 63, 64, 95), None: maskOf(1, 62, 65, 94)}
	deck := randomDeck(r, 12)
	deck[3].Notches, deck[7].Notches = q.All, fullMask
	right := rightAnswer(deck, q)
	for k, w := range right.Out {
		for hole := int16(-3); hole < 130; hole++ {
			a := copyOf(right)
			a.Out[k].Hole = hole
			want := int64(len(deck))
			if !isWitnessIn(q, deck[w.Card].Notches, int64(hole)) {
				want = w.Card
			}
			same(t, label("hole", hole), checkAnswer(t, deck, a), want)
		}
	}
}

// The least card of which an answer is wrong is told, whichever of its lists is wrong.
func TestPromise15FirstFaults(t *testing.T) {
	r := rand.New(rand.NewSource(304))
	q := impl.Query{All: maskOf(3), None: maskOf(70)}
	found := map[int64]bool{}
	for range 1500 {
		deck := deckOf(slices.Repeat([]impl.Mask{maskOf(3), {}, maskOf(3, 70), maskOf(70)}, 3)...)
		a := rightAnswer(deck, q)
		for range 1 + r.Intn(4) {
			card := r.Int63n(int64(len(deck)))
			at, has := slices.BinarySearch(a.In, card)
			k, out := slices.BinarySearch(cardsIn(a.Out), card)
			switch r.Intn(4) {
			case 0:
				if has {
					a.In = slices.Delete(a.In, at, at+1)
				} else {
					a.In = slices.Insert(a.In, at, card)
				}
			case 1:
				if out {
					a.Out = slices.Delete(a.Out, k, k+1)
				} else {
					a.Out = slices.Insert(a.Out, k, impl.Witness{Card: card, Hole: 3})
				}
			default:
				if out {
					a.Out[k].Hole = []int16{3, 70, 4, 96}[r.Intn(4)]
				}
			}
		}
		found[checkAnswer(t, deck, a)] = true
	}
	if len(found) < 10 {
		t.Errorf("just the faults %v are found", found)
	}
	a := impl.Answer{Query: q, In: []int64{0, 1, 2, 3}}
	same(t, "cards that do not drop", checkAnswer(t, deckOf(maskOf(3), maskOf(3), maskOf(4), maskOf(4)), a), int64(2))
	same(t, "cards that are missing", checkAnswer(t, deckOf(maskOf(3), maskOf(3), maskOf(3), maskOf(3), maskOf(3)), a), int64(4))
}

// Lists that are not strictly increasing, or have an index that is none, are told before any card that is wrong.
func TestPromise15WrongListsComeFirst(t *testing.T) {
	deck := deckOf(maskOf(4), maskOf(3), maskOf(3))
	q := impl.Query{All: maskOf(3)}
	for _, a := range []impl.Answer{
		{In: []int64{2, 1}},
		{In: []int64{1, 1, 2}},
		{In: []int64{1, 2, 3}},
		{In: []int64{-1, 1, 2}},
		{In: []int64{1, 2}, Out: []impl.Witness{{Card: 0, Hole: 3}, {Card: 0, Hole: 3}}},
		{In: []int64{1, 2}, Out: []impl.Witness{{Card: 3, Hole: 3}}},
		{In: []int64{1, 2}, Out: []impl.Witness{{Card: -1, Hole: 3}, {Card: 0, Hole: 3}}},
		{In: []int64{0, 1, 2}, Out: []impl.Witness{{Card: 1, Hole: 5}, {Card: 0, Hole: 96}}},
		{Out: []impl.Witness{{Card: 2, Hole: 3}, {Card: 1, Hole: 3}}},
	} {
		a.Query = q
		same(t, label(a), checkAnswer(t, deck, a), int64(-1))
	}
	same(t, "right", checkAnswer(t, deck, impl.Answer{Query: q, In: []int64{1, 2}, Out: []impl.Witness{{Card: 0, Hole: 3}}}), int64(3))
}

func TestSameAnswers(t *testing.T) {
	a := impl.Answer{Query: impl.Query{All: maskOf(3), None: maskOf(70)}, In: []int64{0, 2}, Out: []impl.Witness{{Card: 1, Hole: 3}, {Card: 3, Hole: 70}}}
	others := []impl.Answer{{}, {Query: a.Query}}
	for _, spoil := range []func(b *impl.Answer){
		func(b *impl.Answer) { b.Query.All = maskOf(4) },
		func(b *impl.Answer) { b.Query.None = maskOf(70, 71) },
		func(b *impl.Answer) { b.Query.None[0] = 1 },
		func(b *impl.Answer) { b.In[1] = 3 },
		func(b *impl.Answer) { b.In = b.In[:1] },
		func(b *impl.Answer) { b.In = nil },
		func(b *impl.Answer) { b.In = append(b.In, 5) },
		func(b *impl.Answer) { slices.Reverse(b.In) },
		func(b *impl.Answer) { b.Out[0].Card = 2 },
		func(b *impl.Answer) { b.Out[1].Hole = 3 },
		func(b *impl.Answer) { b.Out = b.Out[1:] },
		func(b *impl.Answer) { b.Out = nil },
		func(b *impl.Answer) { b.Out = append(b.Out, impl.Witness{}) },
		func(b *impl.Answer) { slices.Reverse(b.Out) },
	} {
		b := copyOf(a)
		spoil(&b)
		others = append(others, b)
	}
	all := append(others, a, impl.Answer{Query: wrongQueries()[0], In: []int64{-5, -5}, Out: []impl.Witness{{Card: -1, Hole: 99}}})
	for i, x := range all {
		for k, y := range all {
			same(t, label("SameAnswer", x, y), impl.SameAnswer(x, copyOf(y)), i == k)
		}
	}
	same(t, "nil and empty", impl.SameAnswer(impl.Answer{}, impl.Answer{In: []int64{}, Out: []impl.Witness{}}), true)
}
