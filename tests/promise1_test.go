package tests

import (
	"reflect"
	"strings"
	"testing"

	"loop.example/g01261/impl"
)

// call is one call of a function, which makes its arguments and tells its results.
type call struct {
	name string
	run  func() []any
}

// hardNumbers, hardMasks, hardNames and hardFields are what a function has to return for, valid or not.
func hardNumbers() []int64 {
	return []int64{0, 1, 7, 63, 64, 95, 96, -1, -2, 127, 128, 1 << 31, 1 << 62, -1 << 63, 1<<63 - 1}
}

func hardMasks() []impl.Mask {
	return append(invalidMasks(), impl.Mask{}, maskOf(0), maskOf(63, 64), impl.Mask{^uint64(0), 0xffffffff})
}

func hardFields() []impl.Field {
	return append(append(wrongFields(), someScheme()...), allForms()...)
}

func hardCards() []impl.Card {
	return append(wrongCards(), impl.Card{Name: "ant"}, impl.Card{Name: "bee", Notches: impl.Mask{^uint64(0), 0xffffffff}})
}

func hardTexts() []string {
	return append(wrongNames(), "ant 3 70", "ant 3 3", "kind direct 0 3\n", "kind direct 0 3\nyear pairs 4 2\n", "\n", " \n", "a direct 99999 1\n", strings.Repeat("a direct 0 1\n", 50000))
}

func callsOfMasks() []call {
	var list []call
	add := func(name string, run func() []any) { list = append(list, call{name, run}) }
	for _, n := range hardNumbers() {
		add("CodeName", func() []any { return []any{impl.CodeName(n)} })
		add("MaskOf", func() []any { m, code := impl.MaskOf([]int64{5, n, 5}); return []any{m, code} })
		for _, m := range hardMasks() {
			add("HasHole", func() []any { has, code := impl.HasHole(m, n); return []any{has, code} })
			add("WithHole", func() []any { w, code := impl.WithHole(m, n, true); return []any{w, code} })
			add("WithHole", func() []any { w, code := impl.WithHole(m, n, false); return []any{w, code} })
		}
	}
	for _, m := range hardMasks() {
		add("ValidMask", func() []any { return []any{impl.ValidMask(m)} })
		add("CountHoles", func() []any { return []any{impl.CountHoles(m)} })
		add("HolesIn", func() []any { holes, code := impl.HolesIn(m); return []any{holes, code} })
		for _, n := range hardMasks() {
			add("JoinMasks", func() []any {
				return []any{impl.JoinMasks(m, n), impl.MeetMasks(m, n), impl.LessMask(m, n), impl.IsWithin(m, n)}
			})
		}
	}
	return list
}

func callsOfFields() []call {
	var list []call
	add := func(name string, run func() []any) { list = append(list, call{name, run}) }
	for _, f := range hardFields() {
		add("ValidField", func() []any { return []any{impl.ValidField(f)} })
		add("HolesOf", func() []any { n, code := impl.HolesOf(f); return []any{n, code} })
		add("PartOf", func() []any { m, code := impl.PartOf(f); return []any{m, code} })
		add("MostOf", func() []any { n, code := impl.MostOf(f); return []any{n, code} })
		for _, m := range hardMasks() {
			add("DecodeField", func() []any { n, code := impl.DecodeField(f, m); return []any{n, code} })
		}
		for _, n := range hardNumbers() {
			add("EncodeField", func() []any { m, code := impl.EncodeField(f, n); return []any{m, code} })
			add("PutField", func() []any { c, code := impl.PutField(impl.Card{Name: "ant"}, f, n); return []any{c, code} })
		}
		for _, c := range hardCards() {
			add("PutField", func() []any { d, code := impl.PutField(c, f, 0); return []any{d, code} })
			add("ClearField", func() []any { d, code := impl.ClearField(c, f); return []any{d, code} })
		}
	}
	return list
}

func callsOfSchemes() []call {
	var list []call
	add := func(name string, run func() []any) { list = append(list, call{name, run}) }
	schemes := append(wrongSchemes(), goodSchemes()...)
	schemes = append(schemes, make([]impl.Field, 300000))
	for _, s := range schemes {
		add("ValidScheme", func() []any { return []any{impl.ValidScheme(s)} })
		add("SchemeText", func() []any { return []any{impl.SchemeText(s)} })
		for _, n := range hardNumbers() {
			add("FieldOfHole", func() []any { at, code := impl.FieldOfHole(s, n); return []any{at, code} })
			add("MakeCard", func() []any {
				values := make([]int64, min(len(s), 20))
				for i := range values {
					values[i] = n
				}
				c, code := impl.MakeCard(s, "ant", values)
				return []any{c, code}
			})
		}
		for _, c := range hardCards() {
			add("ValuesOf", func() []any { values, code := impl.ValuesOf(s, c); return []any{values, code} })
		}
	}
	for _, c := range hardCards() {
		add("ValidCard", func() []any { return []any{impl.ValidCard(c)} })
		add("CardText", func() []any { return []any{impl.CardText(c)} })
	}
	for _, text := range hardTexts() {
		add("ReadCard", func() []any { c, code := impl.ReadCard(text); return []any{c, code} })
		add("ReadScheme", func() []any { s, code := impl.ReadScheme(text); return []any{s, code} })
		add("MakeCard", func() []any { c, code := impl.MakeCard(nil, text, nil); return []any{c, code} })
	}
	return list
}

// codesOf are the codes that a function may return.
func codesOf(name string) []int64 {
	switch name {
	case "HasHole", "WithHole", "EncodeField", "PutField", "MakeCard":
		return []int64{impl.OK, impl.ErrInvalid, impl.ErrRange}
	case "MaskOf":
		return []int64{impl.OK, impl.ErrRange}
	case "FieldOfHole":
		return []int64{impl.OK, impl.ErrInvalid, impl.ErrRange, impl.ErrNotFound}
	case "DecodeField":
		return []int64{impl.OK, impl.ErrInvalid, impl.ErrNotFound, impl.ErrProof}
	case "ValuesOf":
		return []int64{impl.OK, impl.ErrInvalid, impl.ErrProof}
	case "ReadCard", "ReadScheme", "ReadDeck", "ReadMix", "ReadWear", "ReadCatalogue", "ReadTree", "ReadEdits":
		return []int64{impl.OK, impl.ErrSyntax}
	case "PassNeedle", "SplitDeck", "QueryFor", "ChanceWear", "IsTold", "ValuesNear", "DoubtsOf", "VotesFor", "RepairCard", "PreferredOf", "PathUp", "NarrowerOf", "SynonymsOf", "ExpandEntry", "TallyOf", "CrossOf", "SplitOf", "FollowsFrom", "HoleTally", "IdleHoles", "TogetherOf", "FalseChance", "ExpectedFalse", "PlanTree", "CheckTree":
		return []int64{impl.OK, impl.ErrInvalid, impl.ErrRange}
	case "WordHoles", "AddWords", "MixLot", "Drops", "DroppedOf", "FalseOf", "CountFalse", "BestPer", "NeedlesFor", "AlikeWords", "MaybeWords":
		return []int64{impl.OK, impl.ErrInvalid, impl.ErrRange}
	case "WordCheck", "TrueOf", "ShareOf":
		return []int64{impl.OK, impl.ErrRange}
	case "ExplainMask":
		return []int64{impl.OK, impl.ErrInvalid, impl.ErrRange, impl.ErrNotFound, impl.ErrBudget}
	case "PassMany":
		return []int64{impl.OK, impl.ErrInvalid, impl.ErrRange, impl.ErrLimit}
	case "BestSize":
		return []int64{impl.OK, impl.ErrRange, impl.ErrNotFound}
	case "FindCard", "FindEntry", "MeanAsked", "FirstFault", "NearestCards":
		return []int64{impl.OK, impl.ErrInvalid, impl.ErrNotFound}
	case "MergeDecks":
		return []int64{impl.OK, impl.ErrInvalid, impl.ErrState, impl.ErrLimit, impl.ErrProof}
	case "FirstFrom", "BothQueries", "NearestValue":
		return []int64{impl.OK, impl.ErrInvalid, impl.ErrState}
	case "FewestNeedles", "SureWords", "FullestOf", "MajorityOf", "LonelyHoles", "CommonBroader", "CommonValue", "BestField", "WalkTree":
		return []int64{impl.OK, impl.ErrInvalid, impl.ErrRange, impl.ErrNotFound}
	case "RepairField", "PutBelow", "MergeEntries":
		return []int64{impl.OK, impl.ErrInvalid, impl.ErrRange, impl.ErrState}
	case "AddEntry":
		return []int64{impl.OK, impl.ErrInvalid, impl.ErrLimit, impl.ErrState}
	case "FileOrder", "EditsBetween", "UndoEdits":
		return []int64{impl.OK, impl.ErrInvalid, impl.ErrLimit}
	case "GuidesFor":
		return []int64{impl.OK, impl.ErrInvalid, impl.ErrLimit, impl.ErrRange}
	case "ApplyEdit", "ApplyEdits", "CheckAfter":
		return []int64{impl.OK, impl.ErrInvalid, impl.ErrLimit, impl.ErrState}
	case "MergeThree":
		return []int64{impl.OK, impl.ErrInvalid, impl.ErrLimit, impl.ErrProof}
	case "DrawerOf":
		return []int64{impl.OK, impl.ErrInvalid, impl.ErrLimit, impl.ErrRange, impl.ErrNotFound}
	}
	return []int64{impl.OK, impl.ErrInvalid}
}

// isZero tells whether a result is its zero value; an empty slice counts as one.
func isZero(x any) bool {
	v := reflect.ValueOf(x)
	return v.IsZero() || v.Kind() == reflect.Slice && v.Len() == 0
}

// Every function returns, with a code that it may have, with zero values beside an error, and twice the same.
func TestPromise1FunctionsReturn(t *testing.T) {
	for _, calls := range [][]call{callsOfMasks(), callsOfFields(), callsOfSchemes(), callsOfDecks(), callsOfSorting(), callsOfQueries(), callsOfMixes(), callsOfLots(), callsOfWear(), callsOfCatalogues(), callsOfFiling(), callsOfTables(), callsOfHardTrees(), callsOfWitnesses()} {
		for _, c := range calls {
			first, second := c.run(), c.run()
			if !reflect.DeepEqual(first, second) {
				t.Fatalf("%s: got %v and then %v", c.name, first, second)
			}
			code, has := first[len(first)-1].(int64)
			if !has || len(first) == 1 {
				continue
			}
			known := false
			for _, k := range codesOf(c.name) {
				known = known || k == code
			}
			if !known {
				t.Fatalf("%s: got %v", c.name, first)
			}
			for _, x := range first[:len(first)-1] {
				if code != impl.OK && !isZero(x) {
					t.Fatalf("%s: got %v", c.name, first)
				}
			}
		}
	}
}

// spare returns a slice with the same elements, and the whole of it, with further ones in its unused capacity.
func spare[T any](list []T, more ...T) ([]T, []T) {
	whole := append(append([]T{}, list...), more...)
	return whole[:len(list)], whole
}

func TestPromise1ArgumentsStay(t *testing.T) {
	extra := impl.Field{Name: "extra", Kind: impl.KdSum, Start: 70, Size: 3}
	for _, s := range append(wrongSchemes(), goodSchemes()...) {
		list, whole := spare(s, extra, extra)
		values, all := spare(make([]int64, len(s)), 7, 8)
		impl.ValidScheme(list)
		impl.FieldOfHole(list, 3)
		impl.SchemeText(list)
		c, _ := impl.MakeCard(list, "ant", values)
		impl.ValuesOf(list, c)
		impl.ValuesOf(list, impl.Card{Name: "ant", Notches: maskOf(0, 1, 2)})
		same(t, "scheme", whole, append(append([]impl.Field{}, s...), extra, extra))
		same(t, "values", all, append(make([]int64, len(s)), 7, 8))
	}
	for _, numbers := range [][]int64{{70, 3, 3}, {9, 96, 1}, {}, hardNumbers()} {
		holes, whole := spare(numbers, 11, 12)
		impl.MaskOf(holes)
		same(t, "holes", whole, append(append([]int64{}, numbers...), 11, 12))
	}
}

// What is written into a result is seen in no other one.
func TestPromise1ResultsAreNew(t *testing.T) {
	m := maskOf(3, 70, 95)
	holes, _ := impl.HolesIn(m)
	holes[0] = -5
	again, _ := impl.HolesIn(m)
	same(t, "HolesIn", again, []int64{3, 70, 95})

	list := someScheme()
	c, _ := impl.MakeCard(list, "bee", []int64{1, 2, 3, 4, 0})
	values, _ := impl.ValuesOf(list, c)
	values[0] = -5
	more, _ := impl.ValuesOf(list, c)
	same(t, "ValuesOf", more, []int64{1, 2, 3, 4, 0})

	text := impl.SchemeText(list)
	read, _ := impl.ReadScheme(text)
	read[0].Start = 50
	other, _ := impl.ReadScheme(text)
	same(t, "ReadScheme", other, list)
	same(t, "SchemeText", impl.SchemeText(list), text)
}
