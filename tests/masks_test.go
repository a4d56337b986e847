package tests

import (
	"math/rand"
	"testing"

	"loop.example/g01261/impl"
)

func TestNamesOfCodes(t *testing.T) {
	for code, want := range []string{"ok", "invalid", "range", "limit", "state", "syntax", "notfound", "budget", "proof", ""} {
		same(t, label("code", code), impl.CodeName(int64(code)), want)
	}
	for _, code := range []int64{-1, 9, 256, 1 << 32, -1 << 63, 1<<63 - 1} {
		same(t, label("code", code), impl.CodeName(code), "")
	}
	same(t, "codes", []int{impl.OK, impl.ErrInvalid, impl.ErrRange, impl.ErrLimit, impl.ErrState, impl.ErrSyntax, impl.ErrNotFound, impl.ErrBudget, impl.ErrProof}, []int{0, 1, 2, 3, 4, 5, 6, 7, 8})
	same(t, "limits", []int{impl.Holes, impl.MaxName, impl.MaxFields}, []int{96, 16, 12})
}

func TestValidMaskKnowsEachBit(t *testing.T) {
	same(t, "empty", impl.ValidMask(impl.Mask{}), true)
	same(t, "full", impl.ValidMask(impl.Mask{^uint64(0), 0xffffffff}), true)
	for hole := range int64(128) {
		same(t, label("bit", hole), impl.ValidMask(maskOf(hole)), hole < 96)
		same(t, label("bit and 3", hole), impl.ValidMask(maskOf(3, hole)), hole < 96)
	}
}

func TestHolesOfMasks(t *testing.T) {
	r := rand.New(rand.NewSource(1))
	masks := []impl.Mask{{}, {^uint64(0), 0xffffffff}, maskOf(0), maskOf(63), maskOf(64), maskOf(95)}
	for range 200 {
		masks = append(masks, randomMask(r))
	}
	for _, m := range masks {
		holes, code := impl.HolesIn(m)
		same(t, "HolesIn", holes, holesIn(m))
		same(t, "HolesIn code", code, int64(impl.OK))
		back, code := impl.MaskOf(holes)
		same(t, "MaskOf", back, m)
		same(t, "MaskOf code", code, int64(impl.OK))
		same(t, "CountHoles", impl.CountHoles(m), int64(len(holesIn(m))))
		for hole := range int64(96) {
			in := less([]int64{hole}, holesIn(m))
			has, code := impl.HasHole(m, hole)
			same(t, label("HasHole", hole), has, in)
			same(t, "HasHole code", code, int64(impl.OK))
			with, code := impl.WithHole(m, hole, true)
			same(t, label("with", hole), with, maskOf(append(holesIn(m), hole)...))
			same(t, "with code", code, int64(impl.OK))
			without, code := impl.WithHole(m, hole, false)
			want := m
			want[hole/64] &^= 1 << (hole % 64)
			same(t, label("without", hole), without, want)
			same(t, "without code", code, int64(impl.OK))
		}
	}
}

func TestMaskOfHolesToldOftenAndInAnyOrder(t *testing.T) {
	m, code := impl.MaskOf([]int64{95, 0, 64, 95, 63, 0})
	same(t, "mask", m, maskOf(0, 63, 64, 95))
	same(t, "code", code, int64(impl.OK))
	m, code = impl.MaskOf(nil)
	same(t, "mask of none", m, impl.Mask{})
	same(t, "code of none", code, int64(impl.OK))
	for _, hole := range noHoles() {
		for _, holes := range [][]int64{{hole}, {3, hole}, {hole, 3}} {
			m, code := impl.MaskOf(holes)
			same(t, label("no hole", holes), m, impl.Mask{})
			same(t, label("no hole", holes), code, int64(impl.ErrRange))
		}
	}
}

func TestMasksThatAreWrong(t *testing.T) {
	for _, m := range invalidMasks() {
		for _, hole := range append(noHoles(), 0, 3, 64, 95) {
			has, code := impl.HasHole(m, hole)
			same(t, "HasHole", []any{has, code}, []any{false, int64(impl.ErrInvalid)})
			for _, open := range []bool{false, true} {
				w, code := impl.WithHole(m, hole, open)
				same(t, "WithHole", []any{w, code}, []any{impl.Mask{}, int64(impl.ErrInvalid)})
			}
		}
		holes, code := impl.HolesIn(m)
		same(t, "HolesIn", holes, []int64{})
		same(t, "HolesIn code", code, int64(impl.ErrInvalid))
	}
	m := maskOf(3, 70)
	for _, hole := range noHoles() {
		has, code := impl.HasHole(m, hole)
		same(t, label("HasHole", hole), []any{has, code}, []any{false, int64(impl.ErrRange)})
		for _, open := range []bool{false, true} {
			w, code := impl.WithHole(m, hole, open)
			same(t, label("WithHole", hole), []any{w, code}, []any{impl.Mask{}, int64(impl.ErrRange)})
		}
	}
}

// The five functions for any masks take those with bits that belong to no hole, too.
func TestMasksOfAnyBits(t *testing.T) {
	r := rand.New(rand.NewSource(2))
	masks := append(invalidMasks(), impl.Mask{}, maskOf(3), maskOf(64, 95))
	for range 40 {
		masks = append(masks, impl.Mask{r.Uint64(), r.Uint64()}, impl.Mask{r.Uint64() & r.Uint64() & r.Uint64(), r.Uint64() & r.Uint64() & r.Uint64()})
	}
	for _, m := range masks {
		same(t, "CountHoles", impl.CountHoles(m), int64(len(holesIn(m))))
		same(t, "itself", impl.IsWithin(m, m), true)
		same(t, "empty", impl.IsWithin(impl.Mask{}, m), true)
		for _, n := range masks {
			both := append(holesIn(m), holesIn(n)...)
			join, meet, only := impl.JoinMasks(m, n), impl.MeetMasks(m, n), impl.LessMask(m, n)
			same(t, "JoinMasks", join, maskOf(both...))
			for hole := range int64(128) {
				one := []int64{hole}
				inM, inN := less(one, holesIn(m)), less(one, holesIn(n))
				same(t, "MeetMasks", less(one, holesIn(meet)), inM && inN)
				same(t, "LessMask", less(one, holesIn(only)), inM && !inN)
			}
			same(t, "IsWithin", impl.IsWithin(m, n), less(holesIn(m), holesIn(n)))
			same(t, "meet within", impl.IsWithin(meet, m), true)
			same(t, "within join", impl.IsWithin(m, join), true)
		}
	}
}

func TestValidCards(t *testing.T) {
	for _, name := range []string{"a", "z", "ant", "abcdefghijklmnop"} {
		for _, m := range []impl.Mask{{}, maskOf(95), {^uint64(0), 0xffffffff}} {
			same(t, label("card", name), impl.ValidCard(impl.Card{Name: name, Notches: m}), true)
		}
	}
	for _, c := range wrongCards() {
		same(t, "wrong card", impl.ValidCard(c), false)
	}
}
