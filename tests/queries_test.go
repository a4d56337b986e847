package tests

import (
	"math/rand"
	"testing"

	"loop.example/g01261/impl"
)

// answerIn tells the indices of the cards that one of several queries drops.
func answerIn(deck []impl.Card, list ...impl.Query) []int64 {
	answer := []int64{}
	for i, c := range deck {
		for _, q := range list {
			if dropsIn(q, c.Notches) {
				answer = append(answer, int64(i))
				break
			}
		}
	}
	return answer
}

func TestValidQueries(t *testing.T) {
	r := rand.New(rand.NewSource(40))
	for _, q := range []impl.Query{{}, {All: fullMask}, {None: fullMask}, {All: maskOf(0), None: lessOf(fullMask, maskOf(0))}, {All: maskOf(95), None: maskOf(94)}} {
		same(t, label("query", q), impl.ValidQuery(q), true)
	}
	for range 100 {
		same(t, "random query", impl.ValidQuery(randomQuery(r)), true)
	}
	for hole := range int64(128) {
		same(t, label("All", hole), impl.ValidQuery(impl.Query{All: maskOf(hole)}), hole < 96)
		same(t, label("None", hole), impl.ValidQuery(impl.Query{None: maskOf(hole)}), hole < 96)
		same(t, label("both", hole), impl.ValidQuery(impl.Query{All: maskOf(hole), None: maskOf(hole)}), false)
	}
	for _, q := range wrongQueries() {
		same(t, label("wrong query", q), impl.ValidQuery(q), false)
	}
}

func TestPromise5WhatDrops(t *testing.T) {
	r := rand.New(rand.NewSource(41))
	queries := []impl.Query{{}, {All: fullMask}, {None: fullMask}}
	for range 200 {
		queries = append(queries, randomQuery(r))
	}
	deck := randomDeck(r, impl.MaxDeck)
	deck[5].Notches, deck[6].Notches = impl.Mask{}, fullMask
	for _, q := range queries {
		for _, c := range deck {
			yes, code := impl.DropsCard(q, c.Notches)
			same(t, label("DropsCard", q, c), []any{yes, code}, []any{dropsIn(q, c.Notches), int64(impl.OK)})
		}
		n, code := impl.PassesOf(q)
		same(t, label("PassesOf", q), []int64{n, code}, []int64{int64(len(holesIn(q.All)) + len(holesIn(q.None))), impl.OK})
		answer, code := impl.AnswerOf(deck, q)
		same(t, label("AnswerOf", q), answer, answerIn(deck, q))
		same(t, label("AnswerOf", q), code, int64(impl.OK))
		answer, code = impl.AnswerOf(nil, q)
		same(t, label("AnswerOf nothing", q), answer, []int64{})
		same(t, label("AnswerOf nothing", q), code, int64(impl.OK))
	}
}

// One hole of All that is not notched, or one of None that is, keeps a card from dropping.
func TestPromise5EachHoleOfAQuery(t *testing.T) {
	q := impl.Query{All: maskOf(0, 5, 63, 64, 95), None: maskOf(1, 62, 65, 94)}
	m := maskOf(0, 5, 63, 64, 95, 7, 70)
	yes, _ := impl.DropsCard(q, m)
	same(t, "drops", yes, true)
	for hole := range int64(96) {
		turned := m
		turned[hole/64] ^= 1 << (hole % 64)
		yes, code := impl.DropsCard(q, turned)
		asked := isNotched(q.All, hole) || isNotched(q.None, hole)
		same(t, label("turned", hole), []any{yes, code}, []any{!asked, int64(impl.OK)})
	}
}

func TestQueriesThatAreWrong(t *testing.T) {
	deck := deckOf(maskOf(3), maskOf(4))
	for _, q := range wrongQueries() {
		for _, m := range append(invalidMasks(), impl.Mask{}, maskOf(3), fullMask) {
			yes, code := impl.DropsCard(q, m)
			same(t, "DropsCard", []any{yes, code}, []any{false, int64(impl.ErrInvalid)})
		}
		n, code := impl.PassesOf(q)
		same(t, "PassesOf", []int64{n, code}, []int64{0, impl.ErrInvalid})
		for _, other := range []impl.Query{{}, {All: q.None, None: q.All}, q, {All: maskOf(3)}, {None: maskOf(3)}} {
			both, code := impl.BothQueries(q, other)
			same(t, "BothQueries", []any{both, code}, []any{impl.Query{}, int64(impl.ErrInvalid)})
			both, code = impl.BothQueries(other, q)
			same(t, "BothQueries", []any{both, code}, []any{impl.Query{}, int64(impl.ErrInvalid)})
		}
		for _, cards := range [][]impl.Card{nil, deck} {
			answer, code := impl.AnswerOf(cards, q)
			same(t, "AnswerOf", answer, []int64{})
			same(t, "AnswerOf", code, int64(impl.ErrInvalid))
			for _, list := range [][]impl.Query{{q}, {{}, q}, {q, {}}, {{}, {All: maskOf(3)}, q}} {
				answer, code := impl.AnyOf(cards, list)
				same(t, "AnyOf", answer, []int64{})
				same(t, "AnyOf", code, int64(impl.ErrInvalid))
			}
		}
	}
	for _, m := range invalidMasks() {
		for _, q := range []impl.Query{{}, {All: maskOf(3)}, {None: maskOf(3)}} {
			yes, code := impl.DropsCard(q, m)
			same(t, "DropsCard wrong mask", []any{yes, code}, []any{false, int64(impl.ErrInvalid)})
		}
	}
	for _, wrong := range wrongDecks() {
		answer, code := impl.AnswerOf(wrong, impl.Query{})
		same(t, "AnswerOf wrong deck", answer, []int64{})
		same(t, "AnswerOf wrong deck", code, int64(impl.ErrInvalid))
		for _, list := range [][]impl.Query{nil, {{}}, {{}, {All: maskOf(3)}}} {
			answer, code := impl.AnyOf(wrong, list)
			same(t, "AnyOf wrong deck", answer, []int64{})
			same(t, "AnyOf wrong deck", code, int64(impl.ErrInvalid))
		}
	}
}

// Both queries drop what each of them drops; several ones what any of them drops.
func TestPromise5BothAndAny(t *testing.T) {
	r := rand.New(rand.NewSource(42))
	deck := randomDeck(r, impl.MaxDeck)
	made, refused := 0, 0
	for range 600 {
		q, s := randomQuery(r), randomQuery(r)
		if r.Intn(2) == 0 { // so that holes of the one are often among those of the other one
			s.None = lessOf(impl.Mask{s.None[0] | q.All[0], s.None[1] | q.All[1]}, s.All)
		}
		all := maskOf(append(holesIn(q.All), holesIn(s.All)...)...)
		none := maskOf(append(holesIn(q.None), holesIn(s.None)...)...)
		both, code := impl.BothQueries(q, s)
		if lessOf(all, none) != all {
			refused++
			same(t, label("BothQueries", q, s), []any{both, code}, []any{impl.Query{}, int64(impl.ErrState)})
		} else {
			made++
			same(t, label("BothQueries", q, s), []any{both, code}, []any{impl.Query{All: all, None: none}, int64(impl.OK)})
			answer, _ := impl.AnswerOf(deck, both)
			var want []int64
			for i, c := range deck {
				if dropsIn(q, c.Notches) && dropsIn(s, c.Notches) {
					want = append(want, int64(i))
				}
			}
			same(t, label("both drop", q, s), answer, want)
		}
		third := randomQuery(r)
		answer, code := impl.AnyOf(deck, []impl.Query{q, s, third})
		same(t, label("AnyOf", q, s, third), answer, answerIn(deck, q, s, third))
		same(t, label("AnyOf", q, s, third), code, int64(impl.OK))
	}
	if made < 50 || refused < 50 {
		t.Errorf("%d queries made and %d refused", made, refused)
	}
	for _, cards := range [][]impl.Card{nil, deck} {
		answer, code := impl.AnyOf(cards, nil)
		same(t, "no queries", answer, []int64{})
		same(t, "no queries", code, int64(impl.OK))
	}
	answer, code := impl.AnyOf(deck[:4], []impl.Query{{}, {}, {All: maskOf(3)}})
	same(t, "all cards, once each", answer, []int64{0, 1, 2, 3})
	same(t, "all cards, once each", code, int64(impl.OK))
}

// A query for a value drops just the cards that keep it: not those with more notches in the field, whatever is beside it.
func TestPromise5QueriesForValues(t *testing.T) {
	r := rand.New(rand.NewSource(43))
	for _, f := range fieldsAtPlaces() {
		part, n := partMask(f), valuesOf(f.Kind, int64(f.Size))
		for _, value := range []int64{0, n - 1, r.Int63n(n), r.Int63n(n)} {
			code := maskOf(codeOf(f, value)...)
			q, fault := impl.QueryFor(f, value)
			same(t, label("QueryFor", f, value), []any{q, fault}, []any{impl.Query{All: code, None: lessOf(part, code)}, int64(impl.OK)})
			same(t, label("ValidQuery", f, value), impl.ValidQuery(q), true)
			passes, _ := impl.PassesOf(q)
			same(t, label("PassesOf", f, value), passes, widthOf(f.Kind, int64(f.Size)))
			deck := deckWith(r, f, 40)
			add := func(m impl.Mask) {
				m = impl.JoinMasks(m, lessOf(randomMask(r), part))
				deck = append(deck, impl.Card{Name: nameOf(len(deck)), Notches: m})
			}
			add(code)
			for _, hole := range holesIn(part) { // cards that would keep it, but for one hole
				almost := code
				almost[hole/64] ^= 1 << (hole % 64)
				add(almost)
			}
			add(code)
			var want []int64
			for i, c := range deck {
				if kept, fault := impl.DecodeField(f, c.Notches); fault == impl.OK && kept == value {
					want = append(want, int64(i))
				}
			}
			answer, fault := impl.AnswerOf(deck, q)
			same(t, label("AnswerOf", f, value), answer, want)
			same(t, label("AnswerOf", f, value), fault, int64(impl.OK))
		}
		for _, value := range []int64{-1, n, n + 1, -1 << 63, 1<<63 - 1} {
			q, fault := impl.QueryFor(f, value)
			same(t, label("QueryFor", f, value), []any{q, fault}, []any{impl.Query{}, int64(impl.ErrRange)})
		}
	}
	for _, f := range wrongFields() {
		for _, value := range []int64{-1, 0, 1 << 40} {
			q, fault := impl.QueryFor(f, value)
			same(t, "QueryFor wrong", []any{q, fault}, []any{impl.Query{}, int64(impl.ErrInvalid)})
		}
	}
}

// Each value of a field is told from each other one by its query.
func TestPromise5EachValueFromEachOther(t *testing.T) {
	for _, f := range []impl.Field{
		{Name: "d", Kind: impl.KdDirect, Start: 55, Size: 24},
		{Name: "s", Kind: impl.KdSum, Start: 62, Size: 1},
		{Name: "p", Kind: impl.KdPairs, Start: 0, Size: 1},
		{Name: "b", Kind: impl.KdBinary, Start: 89, Size: 6},
	} {
		var deck []impl.Card
		for value := range valuesOf(f.Kind, int64(f.Size)) {
			deck = append(deck, impl.Card{Name: nameOf(int(value)), Notches: maskOf(codeOf(f, value)...)})
		}
		deck = append(deck, impl.Card{Name: "empty"})
		for value := range valuesOf(f.Kind, int64(f.Size)) {
			q, _ := impl.QueryFor(f, value)
			answer, code := impl.AnswerOf(deck, q)
			same(t, label("AnswerOf", f, value), answer, []int64{value})
			same(t, label("AnswerOf", f, value), code, int64(impl.OK))
		}
	}
}
