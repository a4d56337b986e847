package tests

import (
	"math/bits"
	"math/rand"
	"slices"
	"testing"

	"loop.example/g01261/impl"
)

// leastIn tells the least distance of the codes of two values, among all pairs of them.
func leastIn(f impl.Field) int64 {
	f.Start = 0 // all holes are in the first number then
	all := codesFor(f).masks
	least := 0
	for i, m := range all {
		for _, n := range all[:i] {
			if far := bits.OnesCount64(m[0] ^ n[0]); least == 0 || far < least {
				least = far
			}
		}
	}
	return int64(least)
}

func TestPromise9LeastDistances(t *testing.T) {
	for _, f := range allForms() {
		want := leastIn(f)
		for _, start := range startsFor(f) {
			f.Start = start
			n, code := impl.LeastDistance(f)
			same(t, label("LeastDistance", f), []int64{n, code}, []int64{want, impl.OK})
		}
	}
	n, code := impl.LeastDistance(impl.Field{Name: "one", Kind: impl.KdDirect, Start: 95, Size: 1})
	same(t, "one value alone", []int64{n, code}, []int64{0, impl.OK})
}

// toldIn tells whether wear of the code of a value is told.
func toldIn(f impl.Field, value int64, w impl.Wear) bool {
	left, code := readIn(f, wornBy(codeMask(f, value), w))
	return code != impl.OK || left == value
}

func checkTold(t *testing.T, f impl.Field, value int64, w impl.Wear) bool {
	t.Helper()
	told, code := impl.IsTold(f, value, w)
	if code != impl.OK || told != toldIn(f, value, w) {
		t.Fatalf("IsTold %v %d %v: got %v, %d", f, value, w, told, code)
	}
	return told
}

// someValues has the first and the last value of a field, and some between them.
func someValues(r *rand.Rand, f impl.Field) []int64 {
	n := valuesOf(f.Kind, int64(f.Size))
	return []int64{0, n - 1, r.Int63n(n), r.Int63n(n), r.Int63n(n)}
}

// Wear of fewer holes than the least distance is told, whichever hole it is, in the field or beside it, torn or filled, notched or not.
func TestPromise9WearOfFewHoles(t *testing.T) {
	r := rand.New(rand.NewSource(110))
	for _, f := range fieldsAtPlaces() {
		least, _ := impl.LeastDistance(f)
		for _, value := range someValues(r, f) {
			if !checkTold(t, f, value, impl.Wear{}) {
				t.Fatalf("no wear of %d in %v is not told", value, f)
			}
			for hole := range int64(96) {
				for _, w := range wearInOne(hole)[1:] {
					if told := checkTold(t, f, value, w); least > 1 && !told {
						t.Fatalf("wear %v of %d in %v is not told", w, value, f)
					}
				}
			}
		}
	}
}

// All wear within fields of few holes: it is told if its holes are fewer than the least distance, and if it does not make the code of another value.
func TestPromise9AllWear(t *testing.T) {
	for _, f := range allForms() {
		width := widthOf(f.Kind, int64(f.Size))
		if width > 6 {
			continue
		}
		least, _ := impl.LeastDistance(f)
		f.Start = 60
		part := holesIn(partMask(f))
		for value := range valuesOf(f.Kind, int64(f.Size)) {
			for n := range powerIn(3, width) {
				var torn, filled []int64
				for _, hole := range part {
					switch n % 3 {
					case 1:
						torn = append(torn, hole)
					case 2:
						filled = append(filled, hole)
					}
					n /= 3
				}
				w := impl.Wear{Torn: maskOf(torn...), Filled: maskOf(filled...)}
				if told := checkTold(t, f, value, w); !told && int64(len(torn)+len(filled)) < least {
					t.Fatalf("wear %v of %d in %v is not told", w, value, f)
				}
			}
		}
	}
}

func powerIn(base, n int64) int64 {
	power := int64(1)
	for range n {
		power *= base
	}
	return power
}

// What makes of the code of a value that of another one is not told, what leaves nothing of it is, and so is what wears other holes alone.
func TestPromise9WearToOtherValues(t *testing.T) {
	r := rand.New(rand.NewSource(111))
	for _, f := range fieldsAtPlaces() {
		part := partMask(f)
		for _, value := range someValues(r, f) {
			for _, other := range someValues(r, f) {
				w, _ := impl.WearBetween(codeMask(f, value), codeMask(f, other))
				told := checkTold(t, f, value, w)
				same(t, label("wear between values", f, value, other), told, value == other)
				beside := lessOf(fullMask, part)
				w.Torn = joined(w.Torn, beside)
				same(t, label("wear beside a field", f, value, other), checkTold(t, f, value, w), value == other)
			}
			for _, w := range []impl.Wear{{Filled: part}, {Filled: fullMask}, {Torn: lessOf(fullMask, part)}, {Filled: lessOf(fullMask, part)}, {Torn: codeMask(f, value)}, {Filled: lessOf(part, codeMask(f, value))}} {
				same(t, label("wear", f, value, w), checkTold(t, f, value, w), true)
			}
			for range 20 {
				checkTold(t, f, value, randomWear(r))
			}
		}
	}
}

// What is torn and makes of a digit another one, by hand: 7 and 1 are 8, and 7 and 4 are 0, but 7, 2 and 1 are no digit.
func TestPromise9WearByHand(t *testing.T) {
	sum := impl.Field{Name: "s", Kind: impl.KdSum, Start: 10, Size: 1}
	pairs := impl.Field{Name: "p", Kind: impl.KdPairs, Start: 10, Size: 1}
	binary := impl.Field{Name: "b", Kind: impl.KdBinary, Start: 10, Size: 1}
	one := impl.Field{Name: "o", Kind: impl.KdDirect, Start: 10, Size: 1}
	for i, x := range []struct {
		f     impl.Field
		value int64
		w     impl.Wear
		told  bool
	}{
		{sum, 7, impl.Wear{Torn: maskOf(13)}, false},
		{sum, 7, impl.Wear{Torn: maskOf(11)}, false},
		{sum, 7, impl.Wear{Torn: maskOf(12, 13)}, true},
		{sum, 7, impl.Wear{Filled: maskOf(10)}, true},
		{sum, 8, impl.Wear{Filled: maskOf(13)}, false},
		{sum, 8, impl.Wear{Filled: maskOf(12)}, true},
		{sum, 7, impl.Wear{Torn: maskOf(10)}, true},
		{pairs, 0, impl.Wear{Torn: maskOf(12)}, true},
		{pairs, 0, impl.Wear{Torn: maskOf(12), Filled: maskOf(11)}, false},
		{pairs, 0, impl.Wear{Torn: maskOf(12), Filled: maskOf(13)}, true},
		{binary, 0, impl.Wear{Torn: maskOf(10)}, true},
		{binary, 0, impl.Wear{Torn: maskOf(10), Filled: maskOf(11)}, false},
		{binary, 0, impl.Wear{Filled: maskOf(11)}, true},
		{one, 0, impl.Wear{Torn: maskOf(9, 11)}, true},
		{one, 0, impl.Wear{Filled: maskOf(10)}, true},
	} {
		told, code := impl.IsTold(x.f, x.value, x.w)
		same(t, label("IsTold", i), []any{told, code}, []any{x.told, int64(impl.OK)})
	}
}

func checkNear(t *testing.T, f impl.Field, m impl.Mask) {
	t.Helper()
	for far := range int64(impl.MaxFar + 1) {
		near, code := impl.ValuesNear(f, m, far)
		want := nearIn(f, m, far)
		if code != impl.OK || !slices.Equal(near, want) {
			t.Fatalf("ValuesNear %v %v %d: got %v, %d, want %v", f, holesIn(m), far, near, code, want)
		}
	}
	list, least := nearestIn(f, m)
	want := []int64{0, 0, impl.ErrState}
	if len(list) == 1 {
		want = []int64{list[0], least, impl.OK}
	}
	value, far, code := impl.NearestValue(f, m)
	same(t, label("NearestValue", f, holesIn(m)), []int64{value, far, code}, want)
}

// All masks of fields with few holes, without other holes and with all of them.
func TestPromise9NearAllMasks(t *testing.T) {
	for _, f := range allForms() {
		width := widthOf(f.Kind, int64(f.Size))
		if width > 8 {
			continue
		}
		f.Start = 60
		part := partMask(f)
		for set := range int64(1) << width {
			var m impl.Mask
			for i, hole := range holesIn(part) {
				if set>>i&1 == 1 {
					m = joined(m, maskOf(hole))
				}
			}
			checkNear(t, f, m)
			checkNear(t, f, joined(m, lessOf(fullMask, part)))
		}
	}
}

func TestPromise9NearDamagedMasks(t *testing.T) {
	r := rand.New(rand.NewSource(112))
	for _, f := range damagedForms() {
		checkNear(t, f, impl.Mask{})
		checkNear(t, f, fullMask)
		for range 5 {
			checkNear(t, f, damagedMask(r, f))
		}
	}
}

// The code of a value is its own nearest one, and the only one that is nowhere else.
func TestPromise9NearCodes(t *testing.T) {
	r := rand.New(rand.NewSource(113))
	for _, f := range fieldsAtPlaces() {
		for _, value := range someValues(r, f) {
			m := joined(codeMask(f, value), lessOf(randomMask(r), partMask(f)))
			near, code := impl.ValuesNear(f, m, 0)
			same(t, label("ValuesNear", f, value), []any{near, code}, []any{[]int64{value}, int64(impl.OK)})
			nearest, far, code := impl.NearestValue(f, m)
			same(t, label("NearestValue", f, value), []int64{nearest, far, code}, []int64{value, 0, impl.OK})
		}
	}
}

func TestPromise9NearByHand(t *testing.T) {
	direct := impl.Field{Name: "d", Kind: impl.KdDirect, Start: 5, Size: 4}
	one := impl.Field{Name: "o", Kind: impl.KdDirect, Start: 5, Size: 1}
	pairs := impl.Field{Name: "p", Kind: impl.KdPairs, Start: 5, Size: 2}
	sum := impl.Field{Name: "s", Kind: impl.KdSum, Start: 5, Size: 1}
	for i, x := range []struct {
		f    impl.Field
		m    impl.Mask
		far  int64
		want []int64
	}{
		{direct, maskOf(), 0, nil},
		{direct, maskOf(), 1, []int64{0, 1, 2, 3}},
		{direct, maskOf(6), 0, []int64{1}},
		{direct, maskOf(6), 1, []int64{1}},
		{direct, maskOf(6), 2, []int64{0, 1, 2, 3}},
		{direct, maskOf(6, 8), 1, []int64{1, 3}},
		{direct, maskOf(6, 8, 4, 9), 1, []int64{1, 3}},
		{direct, maskOf(5, 6, 7, 8), 2, nil},
		{one, maskOf(), 0, nil},
		{one, maskOf(), 1, []int64{0}},
		{one, maskOf(5), 0, []int64{0}},
		{pairs, maskOf(5, 6, 10), 1, []int64{0, 1, 2, 3}},
		{pairs, maskOf(5, 6, 7, 10, 11), 1, []int64{0, 10, 40}},
		{pairs, maskOf(5, 10), 1, nil},
		{sum, maskOf(5, 6, 8), 1, []int64{0, 5, 8}},
		{sum, maskOf(5, 6, 7, 8), 1, nil},
	} {
		near, code := impl.ValuesNear(x.f, x.m, x.far)
		same(t, label("ValuesNear", i, code), near, x.want)
		same(t, "code", code, int64(impl.OK))
	}
	for i, x := range []struct {
		f    impl.Field
		m    impl.Mask
		want []int64
	}{
		{direct, maskOf(), []int64{0, 0, impl.ErrState}},
		{direct, maskOf(6), []int64{1, 0, impl.OK}},
		{direct, maskOf(5, 8), []int64{0, 0, impl.ErrState}},
		{one, maskOf(), []int64{0, 1, impl.OK}},
		{one, maskOf(5), []int64{0, 0, impl.OK}},
		{one, maskOf(4, 6), []int64{0, 1, impl.OK}},
		{sum, maskOf(), []int64{0, 0, impl.ErrState}},
		{sum, maskOf(5, 8), []int64{8, 0, impl.OK}},
	} {
		value, far, code := impl.NearestValue(x.f, x.m)
		same(t, label("NearestValue", i), []int64{value, far, code}, x.want)
	}
}

// doubtsIn tells all fields of cards that keep what stands for no value.
func doubtsIn(list []impl.Field, cards []impl.Card) []impl.Doubt {
	var doubts []impl.Doubt
	for i, c := range cards {
		for k, f := range list {
			if _, code := readIn(f, c.Notches); code == impl.ErrProof {
				doubts = append(doubts, impl.Doubt{Card: int64(i), Field: int64(k)})
			}
		}
	}
	return doubts
}

func TestPromise9Doubts(t *testing.T) {
	r := rand.New(rand.NewSource(114))
	for _, list := range goodSchemes() {
		for _, n := range []int{0, 1, 2, 7, impl.MaxWorn - 1, impl.MaxWorn} {
			cards := []impl.Card{}
			for range n {
				var m impl.Mask
				for _, f := range list {
					m = joined(m, met(damagedMask(r, f), partMask(f)))
				}
				cards = append(cards, impl.Card{Name: "ant", Notches: m})
			}
			doubts, code := impl.DoubtsOf(list, cards)
			same(t, label("DoubtsOf", list, n), doubts, doubtsIn(list, cards))
			same(t, "code", code, int64(impl.OK))
		}
	}
}

// Doubts are in the order of the cards, and of the fields of each card; empty fields and those with a value are none.
func TestPromise9DoubtsByHand(t *testing.T) {
	list := []impl.Field{{Name: "b", Kind: impl.KdDirect, Start: 10, Size: 3}, {Name: "a", Kind: impl.KdPairs, Start: 0, Size: 1}}
	cards := notchedCards(maskOf(10, 11, 0), maskOf(10, 0, 1), maskOf(), maskOf(11, 2), maskOf(10, 12, 3, 4), maskOf(9, 13, 50))
	doubts, code := impl.DoubtsOf(list, cards)
	same(t, "DoubtsOf", doubts, []impl.Doubt{{Card: 0, Field: 0}, {Card: 0, Field: 1}, {Card: 3, Field: 1}, {Card: 4, Field: 0}})
	same(t, "code", code, int64(impl.OK))
}
