package tests

import (
	"math/rand"
	"testing"

	"loop.example/g01261/impl"
)

func TestValidFields(t *testing.T) {
	for _, f := range allForms() {
		for _, start := range startsFor(f) {
			f.Start = start
			same(t, label("field", f), impl.ValidField(f), true)
		}
		f.Start = 97 - int16(widthOf(f.Kind, int64(f.Size)))
		same(t, label("field past the end", f), impl.ValidField(f), false)
		f.Start = -1
		same(t, label("field before the beginning", f), impl.ValidField(f), false)
	}
	for _, f := range wrongFields() {
		same(t, label("wrong field", f.Kind, f.Start, f.Size), impl.ValidField(f), false)
	}
	same(t, "long name", impl.ValidField(impl.Field{Name: "abcdefghijklmnop", Kind: impl.KdSum, Size: 1}), true)
}

func TestMeasuresOfFields(t *testing.T) {
	for _, f := range allForms() {
		width := widthOf(f.Kind, int64(f.Size))
		for _, start := range startsFor(f) {
			f.Start = start
			holes, code := impl.HolesOf(f)
			same(t, label("HolesOf", f), []int64{holes, code}, []int64{width, impl.OK})
			most, code := impl.MostOf(f)
			same(t, label("MostOf", f), []int64{most, code}, []int64{valuesOf(f.Kind, int64(f.Size)) - 1, impl.OK})
			part, code := impl.PartOf(f)
			var want []int64
			for i := range width {
				want = append(want, int64(start)+i)
			}
			same(t, label("PartOf", f), part, maskOf(want...))
			same(t, "PartOf code", code, int64(impl.OK))
		}
	}
}

// Each value of each kind and Size has the code of the document, comes out of it, and comes out of it when all other holes are notched.
func TestPromise2CodesOfAllValues(t *testing.T) {
	for _, f := range allForms() {
		starts := startsFor(f)
		for value := range valuesOf(f.Kind, int64(f.Size)) {
			for i, start := range starts {
				if i > 0 && value%int64(len(starts)) != int64(i)%3 && value > 30 {
					continue
				}
				f.Start = start
				m, code := impl.EncodeField(f, value)
				if code != impl.OK || m != maskOf(codeOf(f, value)...) {
					t.Fatalf("EncodeField of %d in %v: got %v, %d, want %v", value, f, holesIn(m), code, codeOf(f, value))
				}
				back, code := impl.DecodeField(f, m)
				if code != impl.OK || back != value {
					t.Fatalf("DecodeField of %d in %v: got %d, %d", value, f, back, code)
				}
				part, _ := impl.PartOf(f)
				others := impl.LessMask(impl.Mask{^uint64(0), 0xffffffff}, part)
				back, code = impl.DecodeField(f, impl.JoinMasks(m, others))
				if code != impl.OK || back != value {
					t.Fatalf("DecodeField of %d in %v with other holes: got %d, %d", value, f, back, code)
				}
			}
		}
	}
}

// All masks of fields with few holes: one stands for a value, for none, or is empty.
func TestPromise2AllThatMayBeNotched(t *testing.T) {
	for _, f := range allForms() {
		width := widthOf(f.Kind, int64(f.Size))
		if width > 13 {
			continue
		}
		for _, start := range []int16{0, 60, 96 - int16(width)} {
			f.Start = start
			known := map[impl.Mask]int64{}
			for value := range valuesOf(f.Kind, int64(f.Size)) {
				known[maskOf(codeOf(f, value)...)] = value
			}
			for set := range int64(1) << width {
				var m impl.Mask
				for i := range width {
					if set&(1<<i) != 0 {
						m = impl.JoinMasks(m, maskOf(int64(start)+i))
					}
				}
				want := []int64{0, impl.ErrProof}
				if value, ok := known[m]; ok {
					want = []int64{value, impl.OK}
				} else if set == 0 {
					want = []int64{0, impl.ErrNotFound}
				}
				got, code := impl.DecodeField(f, m)
				if got != want[0] || code != want[1] {
					t.Fatalf("DecodeField of %v in %v: got %d, %d, want %v", holesIn(m), f, got, code, want)
				}
			}
		}
	}
}

// What is notched and stands for no value, by kind, as the document tells it.
func TestPromise2WhatStandsForNoValue(t *testing.T) {
	direct := impl.Field{Name: "d", Kind: impl.KdDirect, Start: 5, Size: 24}
	sum := impl.Field{Name: "s", Kind: impl.KdSum, Start: 10, Size: 2}
	pairs := impl.Field{Name: "p", Kind: impl.KdPairs, Start: 60, Size: 2}
	binary := impl.Field{Name: "b", Kind: impl.KdBinary, Start: 20, Size: 3}
	for _, x := range []struct {
		f     impl.Field
		holes []int64
	}{
		{direct, []int64{5, 28}},
		{direct, []int64{5, 6, 7}},
		{sum, []int64{12, 13}},                   // the second digit has nothing
		{sum, []int64{14, 17}},                   // the first digit has nothing
		{sum, []int64{11, 12, 13, 14}},           // 4, 2 and 1 are 7, but not with the fewest holes
		{sum, []int64{14, 15, 16, 10, 11}},       // 7, 4 and 2
		{sum, []int64{10, 12, 13, 14}},           // 7, 2 and 1 are 10
		{sum, []int64{10, 11, 12, 13, 14}},       // all four
		{pairs, []int64{60, 61}},                 // the second digit has nothing
		{pairs, []int64{60, 65, 66}},             // one hole alone
		{pairs, []int64{60, 61, 62, 65, 66}},     // three holes
		{pairs, []int64{60, 61, 65, 66, 67, 68}}, // four holes
		{binary, []int64{20, 23}},                // one digit and the check
		{binary, []int64{20, 22}},                // two digits and no check
		{binary, []int64{20, 21, 22, 23}},        // three digits and the check
	} {
		value, code := impl.DecodeField(x.f, maskOf(x.holes...))
		same(t, label("DecodeField", x.f, x.holes), []int64{value, code}, []int64{0, impl.ErrProof})
	}
}

func TestPromise2EmptyFieldsAmongOtherHoles(t *testing.T) {
	for _, f := range allForms() {
		for _, start := range startsFor(f) {
			f.Start = start
			part, _ := impl.PartOf(f)
			for _, m := range []impl.Mask{{}, impl.LessMask(impl.Mask{^uint64(0), 0xffffffff}, part)} {
				value, code := impl.DecodeField(f, m)
				same(t, label("empty", f), []int64{value, code}, []int64{0, impl.ErrNotFound})
			}
		}
	}
}

func TestFieldsThatAreWrong(t *testing.T) {
	for _, f := range wrongFields() {
		holes, code := impl.HolesOf(f)
		same(t, "HolesOf", []int64{holes, code}, []int64{0, impl.ErrInvalid})
		most, code := impl.MostOf(f)
		same(t, "MostOf", []int64{most, code}, []int64{0, impl.ErrInvalid})
		part, code := impl.PartOf(f)
		same(t, "PartOf", []any{part, code}, []any{impl.Mask{}, int64(impl.ErrInvalid)})
		for _, value := range []int64{-1, 0, 1, 1 << 40} {
			m, code := impl.EncodeField(f, value)
			same(t, "EncodeField", []any{m, code}, []any{impl.Mask{}, int64(impl.ErrInvalid)})
			c, code := impl.PutField(impl.Card{Name: "ant"}, f, value)
			same(t, "PutField", []any{c, code}, []any{impl.Card{}, int64(impl.ErrInvalid)})
		}
		for _, m := range append(invalidMasks(), impl.Mask{}, maskOf(0)) {
			value, code := impl.DecodeField(f, m)
			same(t, "DecodeField", []int64{value, code}, []int64{0, impl.ErrInvalid})
		}
		c, code := impl.ClearField(impl.Card{Name: "ant"}, f)
		same(t, "ClearField", []any{c, code}, []any{impl.Card{}, int64(impl.ErrInvalid)})
	}
}

// ErrInvalid of a card or a mask comes before ErrRange of a value.
func TestFieldsAndWhatIsWrongBesideThem(t *testing.T) {
	for _, f := range allForms() {
		most := valuesOf(f.Kind, int64(f.Size)) - 1
		for _, value := range []int64{-1, -2, most + 1, most + 2, -1 << 63, 1<<63 - 1} {
			m, code := impl.EncodeField(f, value)
			same(t, label("EncodeField", f, value), []any{m, code}, []any{impl.Mask{}, int64(impl.ErrRange)})
			c, code := impl.PutField(impl.Card{Name: "ant", Notches: maskOf(3)}, f, value)
			same(t, label("PutField", f, value), []any{c, code}, []any{impl.Card{}, int64(impl.ErrRange)})
			for _, wrong := range wrongCards() {
				c, code := impl.PutField(wrong, f, value)
				same(t, "PutField wrong", []any{c, code}, []any{impl.Card{}, int64(impl.ErrInvalid)})
			}
		}
		for _, wrong := range wrongCards() {
			c, code := impl.PutField(wrong, f, 0)
			same(t, "PutField wrong", []any{c, code}, []any{impl.Card{}, int64(impl.ErrInvalid)})
			c, code = impl.ClearField(wrong, f)
			same(t, "ClearField wrong", []any{c, code}, []any{impl.Card{}, int64(impl.ErrInvalid)})
		}
		for _, m := range invalidMasks() {
			value, code := impl.DecodeField(f, impl.JoinMasks(m, maskOf(codeOf(f, 0)...)))
			same(t, "DecodeField wrong", []int64{value, code}, []int64{0, impl.ErrInvalid})
		}
	}
}

// What is put into a field comes out, whatever was there before, and all holes beside it stay as they are.
func TestPromise2PutAndClear(t *testing.T) {
	r := rand.New(rand.NewSource(3))
	for _, f := range allForms() {
		for _, start := range startsFor(f) {
			f.Start = start
			part, _ := impl.PartOf(f)
			most := valuesOf(f.Kind, int64(f.Size)) - 1
			for _, value := range []int64{0, most, r.Int63n(most + 1), r.Int63n(most + 1)} {
				c := impl.Card{Name: "ant", Notches: randomMask(r)}
				put, code := impl.PutField(c, f, value)
				want := maskOf(append(holesIn(impl.LessMask(c.Notches, part)), codeOf(f, value)...)...)
				same(t, label("PutField", f, value), []any{put, code}, []any{impl.Card{Name: "ant", Notches: want}, int64(impl.OK)})
				back, code := impl.DecodeField(f, put.Notches)
				same(t, label("DecodeField", f, value), []int64{back, code}, []int64{value, impl.OK})
				clear, code := impl.ClearField(put, f)
				want = impl.LessMask(c.Notches, part)
				same(t, label("ClearField", f), []any{clear, code}, []any{impl.Card{Name: "ant", Notches: want}, int64(impl.OK)})
				back, code = impl.DecodeField(f, clear.Notches)
				same(t, label("cleared", f), []int64{back, code}, []int64{0, impl.ErrNotFound})
			}
		}
	}
}

func TestPromise2OtherFieldsKeepTheirs(t *testing.T) {
	r := rand.New(rand.NewSource(4))
	list := someScheme()
	c, _ := impl.MakeCard(list, "bee", []int64{0, 0, 0, 0, 0})
	values := make([]int64, len(list))
	for range 2000 {
		i := r.Intn(len(list))
		var code int64
		if r.Intn(4) == 0 {
			values[i] = -1
			c, code = impl.ClearField(c, list[i])
		} else {
			values[i] = r.Int63n(valuesOf(list[i].Kind, int64(list[i].Size)))
			c, code = impl.PutField(c, list[i], values[i])
		}
		same(t, "code", code, int64(impl.OK))
		for k, f := range list {
			value, code := impl.DecodeField(f, c.Notches)
			if values[k] == -1 {
				same(t, label("empty", f), []int64{value, code}, []int64{0, impl.ErrNotFound})
			} else {
				same(t, label("kept", f), []int64{value, code}, []int64{values[k], impl.OK})
			}
		}
		same(t, "name", c.Name, "bee")
	}
}

func TestPromise2NoCodeIsWithinAnother(t *testing.T) {
	for _, f := range []impl.Field{
		{Name: "d", Kind: impl.KdDirect, Start: 50, Size: 24},
		{Name: "p", Kind: impl.KdPairs, Start: 60, Size: 1},
		{Name: "q", Kind: impl.KdPairs, Start: 60, Size: 2},
	} {
		for a := range valuesOf(f.Kind, int64(f.Size)) {
			for b := range valuesOf(f.Kind, int64(f.Size)) {
				m, _ := impl.EncodeField(f, a)
				n, _ := impl.EncodeField(f, b)
				same(t, label("within", f, a, b), impl.IsWithin(m, n), a == b)
			}
		}
	}
}
