package tests

import (
	"math/rand"
	"runtime"
	"slices"
	"strings"
	"testing"

	"loop.example/g01261/impl"
)

// hardAnswers are what a function of chapter 7 has to return for, right or not.
func hardAnswers() []impl.Answer {
	q := impl.Query{All: maskOf(3), None: maskOf(70)}
	list := []impl.Answer{{}, {Query: q}, {Query: wrongQueries()[0], In: []int64{0}}}
	rising, out := make([]int64, 300000), make([]impl.Witness, 300000)
	for i := range rising {
		rising[i], out[i] = int64(i), impl.Witness{Card: int64(i), Hole: int16(i)}
	}
	for _, n := range []int{1, 2, 79, 80, 81, 300000} {
		list = append(list, impl.Answer{Query: q, In: rising[:n]}, impl.Answer{Query: q, Out: out[:n]}, impl.Answer{Query: q, In: rising[:n], Out: out[:n]})
	}
	for _, n := range hardNumbers() {
		list = append(list, impl.Answer{Query: q, In: []int64{n}}, impl.Answer{Query: q, Out: []impl.Witness{{Card: n, Hole: int16(n)}}})
	}
	for hole := range 300 {
		list = append(list, impl.Answer{Query: q, Out: []impl.Witness{{Card: 0, Hole: int16(219*hole - 32768)}}})
	}
	return append(list, impl.Answer{Query: q, In: make([]int64, 300000), Out: make([]impl.Witness, 300000)})
}

// hardEditLists are lists of edits, valid or not, and some very long ones.
func hardEditLists() [][]impl.Edit {
	good := goodEdits()
	return [][]impl.Edit{nil, {}, good[:1], good[:200], good, good[195:], wrongEdits()[:3], make([]impl.Edit, 200), make([]impl.Edit, 300000), slices.Repeat(good[:1], 300000), slices.Repeat(good[3:5], 100)}
}

func hardEditTexts() []string {
	return append(hardTexts(), "add a 3\n", "notch a 3\nfill a 3\n", "fill a 96\n", strings.Repeat("add a\n", 150000), strings.Repeat("notch a 3\n", 200), strings.Repeat("notch a 3\n", 201), "add "+strings.Repeat("a", 900000)+"\n", "add a"+strings.Repeat(" 1", 450000)+"\n", "fill a "+strings.Repeat("0", 900000)+"\n", strings.Repeat("\n", 1000000), strings.Repeat(" ", 1000000), strings.Repeat("add ", 200000))
}

// witnessCallsWith calls each function that takes one of some letters, with arguments one of which is changed.
func witnessCallsWith(takes string, change func(x *witnessArgs)) []call {
	var list []call
	for _, c := range witnessCalls() {
		if strings.ContainsAny(c.takes, takes) {
			list = append(list, call{c.name, func() []any { x := goodWitnessArgs(); change(&x); return c.run(x) }})
		}
	}
	return list
}

// callsOfWitnesses gives every function what is hard about its arguments.
func callsOfWitnesses() []call {
	var list []call
	add := func(takes string, change func(x *witnessArgs)) {
		list = append(list, witnessCallsWith(takes, change)...)
	}
	decks := hardDecks()
	for i, deck := range decks {
		other, third := decks[max(i-1, 0)], decks[len(decks)-1-i]
		add("d", func(x *witnessArgs) { x.deck = deck })
		add("ab", func(x *witnessArgs) { x.a = deck })
		add("ab", func(x *witnessArgs) { x.deck, x.a, x.b = other, deck, third })
		add("dab", func(x *witnessArgs) { x.deck, x.a, x.b = deck, deck, deck })
	}
	for _, q := range hardQueries() {
		add("q", func(x *witnessArgs) { x.q = q })
		add("w", func(x *witnessArgs) { x.answer.Query = q })
	}
	for _, a := range hardAnswers() {
		add("w", func(x *witnessArgs) { x.answer = a })
		add("w", func(x *witnessArgs) { x.deck, x.answer = goodDecks()[8], a })
		add("w", func(x *witnessArgs) { x.deck, x.answer = nil, a })
		list = append(list, call{"SameAnswer", func() []any {
			return []any{impl.SameAnswer(a, a), impl.SameAnswer(a, impl.Answer{}), impl.SameAnswer(impl.Answer{}, a)}
		}})
	}
	for _, c := range hardCards() {
		add("c", func(x *witnessArgs) { x.c = c })
	}
	for _, m := range hardMasks() {
		add("m", func(x *witnessArgs) { x.m = m })
		add("n", func(x *witnessArgs) { x.n = m })
	}
	return append(list, callsOfHardEdits()...)
}

func callsOfHardEdits() []call {
	var list []call
	add := func(takes string, change func(x *witnessArgs)) {
		list = append(list, witnessCallsWith(takes, change)...)
	}
	for _, e := range append(wrongEdits(), goodEdits()...) {
		add("e", func(x *witnessArgs) { x.e = e })
		add("e", func(x *witnessArgs) { x.e, x.deck = e, []impl.Card{{Name: "ant", Notches: maskOf(3)}} })
		add("s", func(x *witnessArgs) { x.edits = []impl.Edit{e, e} })
	}
	for _, n := range hardNumbers() {
		add("e", func(x *witnessArgs) { x.check = uint64(n) })
	}
	for _, edits := range hardEditLists() {
		add("s", func(x *witnessArgs) { x.edits = edits })
		add("s", func(x *witnessArgs) { x.edits, x.deck = edits, nil })
		list = append(list, call{"EditsText", func() []any { return []any{impl.EditsText(edits)} }})
	}
	for _, text := range hardEditTexts() {
		list = append(list, call{"ReadEdits", func() []any { edits, code := impl.ReadEdits(text); return []any{edits, code} }})
	}
	return list
}

// The functions of chapter 7 leave their arguments, and what is behind them in the same memory, as they are.
func TestPromise1ArgumentsOfChapter7Stay(t *testing.T) {
	r := rand.New(rand.NewSource(360))
	behind := impl.Card{Name: "behind", Notches: maskOf(1)}
	extra := addEdit(impl.Card{Name: "extra"})
	more := impl.Witness{Card: 5, Hole: 5}
	for _, base := range append(wrongDecks(), goodDecks()...) {
		one, other := changedDeck(r, base[:min(len(base), 40)], 100), shuffled(r, base)
		x := goodWitnessArgs()
		answer := rightAnswer(goodWitnessArgs().deck, x.answer.Query)
		edits := append(slices.Clone(x.edits), wrongEdits()[:r.Intn(2)]...)
		deck, all := spare(base, behind, behind)
		a, allOfA := spare(one, behind)
		b, allOfB := spare(other, behind)
		in, allIn := spare(answer.In, 7, 8)
		out, allOut := spare(answer.Out, more, more)
		told, allTold := spare(edits, extra)
		for _, cards := range [][]impl.Card{deck, x.deck} {
			x.deck, x.a, x.b, x.answer.In, x.answer.Out, x.edits = cards, a, b, in, out, told
			for _, c := range witnessCalls() {
				c.run(x)
			}
		}
		impl.SameAnswer(x.answer, x.answer)
		impl.EditsText(told)
		same(t, "deck", all, append(slices.Clone(base), behind, behind))
		same(t, "deck a", allOfA, append(slices.Clone(one), behind))
		same(t, "deck b", allOfB, append(slices.Clone(other), behind))
		same(t, "In", allIn, append(slices.Clone(answer.In), 7, 8))
		same(t, "Out", allOut, append(slices.Clone(answer.Out), more, more))
		same(t, "edits", allTold, append(slices.Clone(edits), extra))
	}
}

// wipeAll writes into a result, and into what is behind it.
func wipeAll(x any) {
	switch list := x.(type) {
	case impl.Answer:
		fill(list.In, -5)
		fill(list.Out, impl.Witness{Card: -5, Hole: -5})
	case []impl.Card:
		wipe(list)
	case []impl.Edit:
		fill(list, impl.Edit{Kind: -5})
	case []int64:
		fill(list, -5)
	case []string:
		fill(list, "wiped")
	case [][]int64:
		for _, group := range list {
			fill(group, -5)
		}
		fill(list, nil)
	}
}

// What is written into a result is seen neither in an argument nor in another result.
func TestPromise1ResultsOfChapter7AreNew(t *testing.T) {
	conflict := goodWitnessArgs()
	conflict.a[1].Notches, conflict.b[0].Notches = maskOf(50), maskOf(51)
	without := goodWitnessArgs()
	without.edits, without.a, without.b = nil, without.deck, without.deck
	before := label(goodWitnessArgs(), conflict, without)
	good := goodWitnessArgs()
	for _, x := range []witnessArgs{good, conflict, without} {
		for _, c := range witnessCalls() {
			want := label(c.run(x)...) // as a text, which nothing can change
			for range 2 {
				for _, result := range c.run(x) {
					wipeAll(result)
				}
				same(t, c.name, label(c.run(x)...), want)
			}
		}
	}
	same(t, "arguments", label(good, conflict, without), before)
	for range 2 {
		edits, _ := impl.ReadEdits("add a 3\nfill b 4\n")
		same(t, "ReadEdits", edits, []impl.Edit{addEdit(impl.Card{Name: "a", Notches: maskOf(3)}), fillEdit("b", 4)})
		wipeAll(edits)
	}
}

// No group shares memory with another one: what is written into one, or behind it, is seen in no other one.
func TestPromise1GroupsAreApart(t *testing.T) {
	for n := 2; n < 40; n++ {
		deck := deckOf(slices.Repeat([]impl.Mask{maskOf(3), maskOf(4)}, n)...)
		groups, _ := impl.DuplicatesOf(deck)
		want := duplicatesIn(deck)
		fill(groups[0], -7)
		same(t, "the second group", groups[1], want[1])
		groups, _ = impl.DuplicatesOf(deck)
		fill(groups[1], -7)
		same(t, "the first group", groups[0], want[0])
	}
}

// Calls beside each other have the results that each of them has alone.
func TestPromise1CallsOfChapter7BesideEachOther(t *testing.T) {
	x := goodWitnessArgs()
	var list []call
	for _, c := range witnessCalls() {
		list = append(list, call{c.name, func() []any { return c.run(x) }})
	}
	checkBeside(t, list)
}

// Nothing that a check of an answer has started goes on behind it.
func TestPromise1NothingOfChapter7GoesOn(t *testing.T) {
	before := runtime.NumGoroutine()
	deck := goodDecks()[8]
	for range 50 {
		for _, a := range append(hardAnswers()[:20], rightAnswer(deck, impl.Query{All: maskOf(3)})) {
			impl.CheckAnswer(deck, a)
			impl.FirstFault(deck, a)
		}
	}
	checkNoneGoesOn(t, before)
}
