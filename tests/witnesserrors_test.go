package tests

import (
	"math/rand"
	"slices"
	"strings"
	"testing"

	"loop.example/g01261/impl"
)

// witnessArgs are arguments for the functions of chapter 7; each function takes some of them.
type witnessArgs struct {
	deck, a, b []impl.Card
	q          impl.Query
	answer     impl.Answer
	c          impl.Card
	m, n       impl.Mask
	e          impl.Edit
	edits      []impl.Edit
	check      uint64
}

// goodWitnessArgs are arguments with which every function of chapter 7 returns OK.
func goodWitnessArgs() witnessArgs {
	deck := deckOf(maskOf(3), maskOf(4), maskOf(3, 4), maskOf(4))
	return witnessArgs{
		deck: deck, a: append(slices.Clone(deck), impl.Card{Name: "new"}), b: append(slices.Clone(deck[1:]), impl.Card{Name: "other"}),
		q: impl.Query{All: maskOf(3)}, answer: impl.Answer{Query: impl.Query{All: maskOf(3)}, In: []int64{0}, Out: []impl.Witness{{Card: 1, Hole: 3}, {Card: 3, Hole: 3}}},
		c: deck[0], m: maskOf(4), n: maskOf(5, 70), e: addEdit(impl.Card{Name: "ant", Notches: maskOf(7)}),
		edits: []impl.Edit{dropEdit(deck[0]), notchEdit(nameOf(1), 5), fillEdit(nameOf(1), 4), addEdit(impl.Card{Name: "ant"})}, check: 12345,
	}
}

// witnessCall is a function of chapter 7, and what it takes: d a deck, a and b further ones, q a query, w an answer and f one that must not be right, c a card, m and n masks, y cards of which there must be some, e an edit, and s several.
type witnessCall struct {
	name, takes string
	run         func(x witnessArgs) []any
}

func callsOfAnswers() []witnessCall {
	return []witnessCall{
		{"MakeAnswer", "dq", func(x witnessArgs) []any { a, code := impl.MakeAnswer(x.deck, x.q); return []any{a, code} }},
		{"CheckAnswer", "dw", func(x witnessArgs) []any { yes, code := impl.CheckAnswer(x.deck, x.answer); return []any{yes, code} }},
		{"FirstFault", "dwf", func(x witnessArgs) []any { at, code := impl.FirstFault(x.deck, x.answer); return []any{at, code} }},
	}
}

func callsOfChecks() []witnessCall {
	return []witnessCall{
		{"HashCard", "c", func(x witnessArgs) []any { hash, code := impl.HashCard(x.c); return []any{hash, code} }},
		{"CheckOfDeck", "d", func(x witnessArgs) []any { check, code := impl.CheckOfDeck(x.deck); return []any{check, code} }},
		{"SameCards", "da", func(x witnessArgs) []any { yes, code := impl.SameCards(x.deck, x.a); return []any{yes, code} }},
		{"DuplicatesOf", "d", func(x witnessArgs) []any { groups, code := impl.DuplicatesOf(x.deck); return []any{groups, code} }},
		{"DistanceOf", "mn", func(x witnessArgs) []any { far, code := impl.DistanceOf(x.m, x.n); return []any{far, code} }},
		{"NearestCards", "dmy", func(x witnessArgs) []any {
			near, least, code := impl.NearestCards(x.deck, x.m)
			return []any{near, least, code}
		}},
	}
}

func callsOfEdits() []witnessCall {
	return []witnessCall{
		{"EditsBetween", "da", func(x witnessArgs) []any {
			edits, code := impl.EditsBetween(x.deck, x.a)
			return []any{edits, code}
		}},
		{"ApplyEdit", "de", func(x witnessArgs) []any { after, code := impl.ApplyEdit(x.deck, x.e); return []any{after, code} }},
		{"ApplyEdits", "ds", func(x witnessArgs) []any {
			after, n, code := impl.ApplyEdits(x.deck, x.edits)
			return []any{after, n, code}
		}},
		{"UndoEdits", "s", func(x witnessArgs) []any { undo, code := impl.UndoEdits(x.edits); return []any{undo, code} }},
		{"CheckAfter", "de", func(x witnessArgs) []any {
			check, code := impl.CheckAfter(x.check, x.deck, x.e)
			return []any{check, code}
		}},
		{"MergeThree", "dab", func(x witnessArgs) []any {
			merged, code := impl.MergeThree(x.deck, x.a, x.b)
			return []any{merged, code}
		}},
		{"ConflictsOf", "dab", func(x witnessArgs) []any {
			names, code := impl.ConflictsOf(x.deck, x.a, x.b)
			return []any{names, code}
		}},
	}
}

func witnessCalls() []witnessCall {
	return slices.Concat(callsOfAnswers(), callsOfChecks(), callsOfEdits())
}

// spoilWitness is a way to spoil one argument, so that all functions fail which take what has the letter.
type spoilWitness struct {
	takes string
	spoil func(x *witnessArgs)
}

// invalidWitnessArgs spoil arguments so that they are not valid.
func invalidWitnessArgs() []spoilWitness {
	var all []spoilWitness
	add := func(takes string, spoil func(x *witnessArgs)) { all = append(all, spoilWitness{takes, spoil}) }
	for _, deck := range wrongDecks() {
		add("d", func(x *witnessArgs) { x.deck = deck })
		add("a", func(x *witnessArgs) { x.a = deck })
		add("b", func(x *witnessArgs) { x.b = deck })
	}
	for _, q := range wrongQueries() {
		add("q", func(x *witnessArgs) { x.q = q })
		add("w", func(x *witnessArgs) { x.answer.Query = q })
	}
	for _, c := range wrongCards() {
		add("c", func(x *witnessArgs) { x.c = c })
	}
	for _, m := range invalidMasks() {
		add("m", func(x *witnessArgs) { x.m = m })
		add("n", func(x *witnessArgs) { x.n = m })
	}
	for _, e := range wrongEdits() {
		add("e", func(x *witnessArgs) { x.e = e })
		add("s", func(x *witnessArgs) { x.edits = append(slices.Clone(x.edits), e) })
		add("s", func(x *witnessArgs) { x.edits = append([]impl.Edit{e}, x.edits...) })
	}
	return all
}

// Each thing that is not valid is told of each function that takes it, and of no other one.
func TestErrorsOfChapter7(t *testing.T) {
	for _, c := range witnessCalls() {
		checkCode(t, c.name, c.run(goodWitnessArgs()), impl.OK)
		for _, spoilt := range invalidWitnessArgs() {
			x := goodWitnessArgs()
			spoilt.spoil(&x)
			code := int64(impl.OK)
			if strings.Contains(c.takes, spoilt.takes) {
				code = impl.ErrInvalid
			}
			checkCode(t, c.name+" invalid "+spoilt.takes, c.run(x), code)
		}
	}
}

// otherWitnessArgs spoil arguments so that the functions which are named return another code.
func otherWitnessArgs() map[string][]spoilWitness {
	full := randomDeck(rand.New(rand.NewSource(350)), impl.MaxDeck)
	return map[string][]spoilWitness{
		"NearestCards": {{"d", func(x *witnessArgs) { x.deck = nil }}},
		"FirstFault": {
			{"w", func(x *witnessArgs) { x.answer = rightAnswer(x.deck, x.answer.Query) }},
			{"dw", func(x *witnessArgs) { x.deck, x.answer = nil, impl.Answer{} }},
		},
		"EditsBetween": {{"da", func(x *witnessArgs) { x.deck, x.a = full, deckOf(make([]impl.Mask, 80)...) }}},
		"ApplyEdit": {
			{"d", func(x *witnessArgs) { x.deck = full }},
			{"e", func(x *witnessArgs) { x.e = notchEdit("ant", 3) }},
			{"de", func(x *witnessArgs) { x.deck, x.e = full, addEdit(full[3]) }},
		},
		"CheckAfter": {
			{"d", func(x *witnessArgs) { x.deck = full }},
			{"e", func(x *witnessArgs) { x.e = fillEdit(nameOf(0), 4) }},
			{"de", func(x *witnessArgs) { x.deck, x.e = full, addEdit(full[3]) }},
		},
		"ApplyEdits": {
			{"s", func(x *witnessArgs) { x.edits = slices.Repeat(x.edits, 51) }},
			{"d", func(x *witnessArgs) { x.deck = nil }},
			{"s", func(x *witnessArgs) { x.edits = append(x.edits, x.edits...) }},
		},
		"UndoEdits": {{"s", func(x *witnessArgs) { x.edits = slices.Repeat(x.edits, 51) }}},
		"MergeThree": {
			{"b", func(x *witnessArgs) { x.b = deckOf(maskOf(9)); x.a = deckOf(maskOf(8)) }},
			{"d", func(x *witnessArgs) {
				x.deck, x.a, x.b = nil, full, []impl.Card{{Name: "one"}}
			}},
		},
	}
}

// What is not valid is told before anything else that is wrong.
func TestInvalidComesFirstInChapter7(t *testing.T) {
	others := otherWitnessArgs()
	for _, c := range witnessCalls() {
		for _, other := range others[c.name] {
			x := goodWitnessArgs()
			other.spoil(&x)
			results := c.run(x)
			if code := results[len(results)-1].(int64); code == impl.OK || code == impl.ErrInvalid {
				t.Errorf("%s: the code is %d", c.name, code)
			}
			for _, spoilt := range invalidWitnessArgs() {
				if !strings.Contains(c.takes, spoilt.takes) {
					continue
				}
				x := goodWitnessArgs()
				other.spoil(&x)
				spoilt.spoil(&x)
				checkCode(t, c.name+" "+spoilt.takes, c.run(x), impl.ErrInvalid)
			}
		}
	}
}

// Too many edits are told before one that does not fit or that has no room, and no room before what does not fit.
func TestOrderOfErrorsInChapter7(t *testing.T) {
	full := randomDeck(rand.New(rand.NewSource(351)), impl.MaxDeck)
	unfit, more := notchEdit("nowhere", 3), addEdit(impl.Card{Name: "more"})
	fits := notchEdit("ant", 3)
	for _, x := range []struct {
		deck  []impl.Card
		edits []impl.Edit
		code  int64
	}{
		{nil, slices.Repeat([]impl.Edit{unfit}, 201), impl.ErrLimit},
		{nil, slices.Repeat([]impl.Edit{unfit}, 200), impl.ErrState},
		{full, slices.Repeat([]impl.Edit{more}, 201), impl.ErrLimit},
		{full, []impl.Edit{more, unfit}, impl.ErrLimit},
		{full, []impl.Edit{unfit, more}, impl.ErrState},
		{full, []impl.Edit{addEdit(full[0])}, impl.ErrLimit},
		{full[:79], []impl.Edit{addEdit(full[0])}, impl.ErrState},
		{full[:79], []impl.Edit{more, more}, impl.ErrLimit},
		{[]impl.Card{{Name: "ant"}}, []impl.Edit{fits, fits, more}, impl.ErrState},
		{[]impl.Card{{Name: "ant"}}, []impl.Edit{fits, {Kind: 9, Name: "ant"}, fits}, impl.ErrInvalid},
	} {
		after, n, code := impl.ApplyEdits(x.deck, x.edits)
		checkCode(t, label("ApplyEdits", len(x.deck), x.edits), []any{after, n, code}, x.code)
	}
	// Conflicts of cards are told before there are too many.
	a, b := slices.Clone(full[:79]), slices.Clone(full[40:])
	merged, code := impl.MergeThree(nil, a, append(b[1:], impl.Card{Name: "x"}, impl.Card{Name: "y"}))
	checkCode(t, "MergeThree too many", []any{merged, code}, impl.ErrLimit)
	a[50].Notches = joined(lessOf(a[50].Notches, maskOf(3)), lessOf(maskOf(3), a[50].Notches))
	merged, code = impl.MergeThree(nil, a, append(b[1:], impl.Card{Name: "x"}, impl.Card{Name: "y"}))
	checkCode(t, "MergeThree conflict", []any{merged, code}, impl.ErrProof)
}

// Decks of MaxDeck cards are taken by all functions.
func TestLimitsOfChapter7(t *testing.T) {
	full := randomDeck(rand.New(rand.NewSource(352)), impl.MaxDeck)
	x := goodWitnessArgs()
	x.deck, x.a, x.b = full, full, full
	x.q, x.answer = impl.Query{All: fullMask}, impl.Answer{Query: impl.Query{None: fullMask}}
	x.c = impl.Card{Name: strings.Repeat("z", impl.MaxName), Notches: fullMask}
	x.m, x.n, x.e = fullMask, fullMask, dropEdit(full[79])
	x.edits = nil
	for range impl.MaxEdits / 2 {
		x.edits = append(x.edits, dropEdit(full[79]), addEdit(full[79]))
	}
	for _, c := range witnessCalls() {
		checkCode(t, c.name, c.run(x), impl.OK)
	}
}
