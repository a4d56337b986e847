package tests

import (
	"slices"
	"strings"
	"testing"

	"loop.example/g01261/impl"
)

// mixArgs are arguments for the functions of chapter 3; each function takes some of them.
type mixArgs struct {
	x          impl.Mix
	m          impl.Mask
	masks      []impl.Mask
	lot        [][]string
	words      []string
	vocabulary []string
	budget     int64
}

// goodArgs are arguments with which every function of chapter 3 returns OK.
func goodArgs() mixArgs {
	x := impl.Mix{Start: 50, Size: 20, Per: 3}
	m := maskOfWords(x, "ant", "bee")
	return mixArgs{x: x, m: m, masks: []impl.Mask{{}, m}, lot: [][]string{{"ant", "bee"}, {"fly"}}, words: []string{"ant"}, vocabulary: []string{"ant", "bee", "fly"}, budget: 100}
}

// mixCall is a function of chapter 3, and what it takes: m a mask, n masks, l a lot, w words, v a vocabulary, and b a budget; all with an x take a mix.
type mixCall struct {
	name, takes string
	run         func(a mixArgs) []any
}

func mixCalls() []mixCall {
	return []mixCall{
		{"MixPart", "x", func(a mixArgs) []any { m, code := impl.MixPart(a.x); return []any{m, code} }},
		{"AddWords", "xmw", func(a mixArgs) []any { m, code := impl.AddWords(a.x, a.m, a.words); return []any{m, code} }},
		{"MixLot", "xl", func(a mixArgs) []any { masks, code := impl.MixLot(a.x, a.lot); return []any{masks, code} }},
		{"Drops", "xmw", func(a mixArgs) []any { yes, code := impl.Drops(a.x, a.m, a.words); return []any{yes, code} }},
		{"DroppedOf", "xnw", func(a mixArgs) []any {
			list, code := impl.DroppedOf(a.x, a.masks, a.words)
			return []any{list, code}
		}},
		{"TrueOf", "lw", func(a mixArgs) []any { list, code := impl.TrueOf(a.lot, a.words); return []any{list, code} }},
		{"FalseOf", "xlw", func(a mixArgs) []any { list, code := impl.FalseOf(a.x, a.lot, a.words); return []any{list, code} }},
		{"CountFalse", "xl", func(a mixArgs) []any { n, code := impl.CountFalse(a.x, a.lot); return []any{n, code} }},
		{"BestPer", "xl", func(a mixArgs) []any { per, n, code := impl.BestPer(a.x, a.lot); return []any{per, n, code} }},
		{"NeedlesFor", "xw", func(a mixArgs) []any { n, code := impl.NeedlesFor(a.x, a.words); return []any{n, code} }},
		{"AlikeWords", "xv", func(a mixArgs) []any { pairs, code := impl.AlikeWords(a.x, a.vocabulary); return []any{pairs, code} }},
		{"MaybeWords", "xmv", func(a mixArgs) []any {
			list, code := impl.MaybeWords(a.x, a.m, a.vocabulary)
			return []any{list, code}
		}},
		{"ExplainMask", "xmvb", func(a mixArgs) []any {
			list, code := impl.ExplainMask(a.x, a.m, a.vocabulary, a.budget)
			return []any{list, code}
		}},
		{"SureWords", "xmv", func(a mixArgs) []any { list, code := impl.SureWords(a.x, a.m, a.vocabulary); return []any{list, code} }},
		{"FullestOf", "xn", func(a mixArgs) []any { at, n, code := impl.FullestOf(a.x, a.masks); return []any{at, n, code} }},
	}
}

// checkCode fails the test if a call has another code, or with an error something else than zero values.
func checkCode(t *testing.T, what string, got []any, code int64) {
	t.Helper()
	if got[len(got)-1] != code {
		t.Errorf("%s: got %v, want the code %d", what, got, code)
	}
	for _, x := range got[:len(got)-1] {
		if code != impl.OK && !isZero(x) {
			t.Errorf("%s: got %v beside the code %d", what, got, code)
		}
	}
}

// rangeFaults spoil arguments so that all functions return ErrRange which take what has the letter.
func rangeFaults() map[string][]func(a *mixArgs) {
	faults := map[string][]func(a *mixArgs){}
	add := func(takes string, spoil func(a *mixArgs)) { faults[takes] = append(faults[takes], spoil) }
	for _, words := range wrongLists(impl.MaxWords) {
		add("w", func(a *mixArgs) { a.words = words })
	}
	for _, words := range wrongLists(impl.MaxVocabulary) {
		add("v", func(a *mixArgs) { a.vocabulary = words })
	}
	for _, lot := range wrongLots() {
		add("l", func(a *mixArgs) { a.lot = lot })
	}
	for _, n := range []int{impl.MaxLot + 1, 5000} {
		add("n", func(a *mixArgs) { a.masks = make([]impl.Mask, n) })
	}
	for _, budget := range wrongBudgets() {
		add("b", func(a *mixArgs) { a.budget = budget })
	}
	return faults
}

// invalidFaults spoil arguments so that all functions return ErrInvalid which take what has the letter.
func invalidFaults() map[string][]func(a *mixArgs) {
	faults := map[string][]func(a *mixArgs){}
	add := func(takes string, spoil func(a *mixArgs)) { faults[takes] = append(faults[takes], spoil) }
	for _, x := range wrongMixes() {
		add("x", func(a *mixArgs) { a.x = x })
	}
	for _, m := range invalidMasks() {
		add("m", func(a *mixArgs) { a.m = m })
		add("n", func(a *mixArgs) { a.masks = append(slices.Clone(a.masks), m) })
		add("n", func(a *mixArgs) { a.masks = append([]impl.Mask{m}, a.masks...) })
	}
	return faults
}

// Each thing that is wrong is told of each function that takes it; what is invalid comes before all that is out of range.
func TestErrorsOfChapter3(t *testing.T) {
	outside := rangeFaults()
	for _, c := range mixCalls() {
		checkCode(t, c.name, c.run(goodArgs()), impl.OK)
		for takes, faults := range outside {
			for _, spoil := range faults {
				a := goodArgs()
				spoil(&a)
				code := int64(impl.OK)
				if strings.Contains(c.takes, takes) {
					code = impl.ErrRange
				}
				checkCode(t, c.name+" out of range "+takes, c.run(a), code)
			}
		}
		for takes, faults := range invalidFaults() {
			if !strings.Contains(c.takes, takes) {
				continue
			}
			for _, spoil := range faults {
				a := goodArgs()
				spoil(&a)
				checkCode(t, c.name+" invalid "+takes, c.run(a), impl.ErrInvalid)
				for _, list := range outside { // the same, with all else out of range
					list[0](&a)
				}
				spoil(&a)
				checkCode(t, c.name+" invalid and out of range "+takes, c.run(a), impl.ErrInvalid)
			}
		}
	}
}

// What is out of range comes before what is not found, and before the end of the budget.
func TestRangeComesBeforeWhatIsLookedFor(t *testing.T) {
	a := goodArgs()
	for _, words := range wrongLists(impl.MaxVocabulary) {
		for _, m := range []impl.Mask{{}, maskOf(50), fullMask, a.m} {
			for _, budget := range []int64{0, 1, impl.MaxCover, -1} {
				list, code := impl.ExplainMask(a.x, m, words, budget)
				checkCode(t, "ExplainMask", []any{list, code}, impl.ErrRange)
			}
			list, code := impl.SureWords(a.x, m, words)
			checkCode(t, "SureWords", []any{list, code}, impl.ErrRange)
		}
	}
	for _, x := range wrongMixes() {
		at, most, code := impl.FullestOf(x, nil)
		checkCode(t, "FullestOf", []any{at, most, code}, impl.ErrInvalid)
		list, code := impl.ExplainMask(x, impl.Mask{}, nil, 0)
		checkCode(t, "ExplainMask", []any{list, code}, impl.ErrInvalid)
	}
}

// Words one by one: how long they are, and which letters they have.
func TestWordsAtTheLimits(t *testing.T) {
	x := impl.Mix{Start: 50, Size: 20, Per: 3}
	for n := 1; n <= impl.MaxWord; n++ {
		word := longWord[:n]
		check, code := impl.WordCheck(word)
		same(t, label("WordCheck", word), []int64{int64(check), code}, []int64{checkIn(word), impl.OK})
		m, code := impl.WordHoles(x, word)
		same(t, label("WordHoles", word), []any{m, code}, []any{maskOfWords(x, word), int64(impl.OK)})
	}
	for b := range 256 {
		word := "a" + string([]byte{byte(b)}) + "z"
		_, code := impl.WordCheck(word)
		same(t, label("WordCheck", b), code == impl.OK, b >= 'a' && b <= 'z')
	}
	for _, word := range wrongWords() {
		check, code := impl.WordCheck(word)
		checkCode(t, label("WordCheck", word), []any{check, code}, impl.ErrRange)
		m, code := impl.WordHoles(x, word)
		checkCode(t, label("WordHoles", word), []any{m, code}, impl.ErrRange)
		for _, wrong := range wrongMixes() {
			m, code := impl.WordHoles(wrong, word)
			checkCode(t, label("WordHoles", wrong, word), []any{m, code}, impl.ErrInvalid)
			m, code = impl.WordHoles(wrong, "ant")
			checkCode(t, label("WordHoles", wrong), []any{m, code}, impl.ErrInvalid)
		}
	}
}

// All limits may be reached: MaxWords words of MaxWord letters, MaxLot lists and masks, and MaxVocabulary words.
func TestLimitsThatAreReached(t *testing.T) {
	a := goodArgs()
	a.words = manyWords(impl.MaxWords)
	a.words[0] = longWord
	a.lot = slices.Repeat([][]string{a.words}, impl.MaxLot)
	a.masks = slices.Repeat([]impl.Mask{maskOfWords(a.x, a.words...)}, impl.MaxLot)
	a.vocabulary = append(manyWords(impl.MaxVocabulary-2), "ant", "bee")
	a.budget = impl.MaxCover
	for _, c := range mixCalls() {
		checkCode(t, c.name, c.run(a), impl.OK)
	}
	dropped, _ := impl.DroppedOf(a.x, a.masks, a.words)
	same(t, "DroppedOf", dropped, rising(impl.MaxLot))
	own, _ := impl.TrueOf(a.lot, a.words)
	same(t, "TrueOf", own, rising(impl.MaxLot))
	masks, _ := impl.MixLot(a.x, a.lot)
	same(t, "MixLot", masks, a.masks)
}
