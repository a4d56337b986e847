package tests

import (
	"math/rand"
	"slices"
	"testing"

	"loop.example/g01261/impl"
)

// votesIn tells how many masks have a hole.
func votesIn(masks []impl.Mask, hole int64) int64 {
	votes := int64(0)
	for _, m := range masks {
		if isNotched(m, hole) {
			votes++
		}
	}
	return votes
}

// checkVotes holds all that masks say about each hole against the votes for it, as far as there are enough masks.
func checkVotes(t *testing.T, masks []impl.Mask) {
	t.Helper()
	n := int64(len(masks))
	var most, lonely []int64
	for hole := range int64(96) {
		want := votesIn(masks, hole)
		votes, code := impl.VotesFor(masks, hole)
		same(t, label("VotesFor", hole), []int64{votes, code}, []int64{want, impl.OK})
		if want > n-want {
			most = append(most, hole)
		}
		if want == 1 || n-want == 1 {
			lonely = append(lonely, hole)
		}
	}
	m, code := impl.MajorityOf(masks)
	if n == 0 {
		same(t, "MajorityOf no masks", []any{m, code}, []any{impl.Mask{}, int64(impl.ErrNotFound)})
	} else {
		same(t, label("MajorityOf", masks), []any{m, code}, []any{maskOf(most...), int64(impl.OK)})
	}
	m, code = impl.LonelyHoles(masks)
	if n < 3 {
		same(t, label("LonelyHoles", masks), []any{m, code}, []any{impl.Mask{}, int64(impl.ErrNotFound)})
	} else {
		same(t, label("LonelyHoles", masks), []any{m, code}, []any{maskOf(lonely...), int64(impl.OK)})
	}
}

func TestPromise10Votes(t *testing.T) {
	r := rand.New(rand.NewSource(120))
	for n := range impl.MaxCopies + 1 {
		checkVotes(t, make([]impl.Mask, n))
		checkVotes(t, slices.Repeat([]impl.Mask{fullMask}, n))
		for range 20 {
			checkVotes(t, randomMasks(r, n))
		}
	}
}

// All numbers of votes that a hole can have among any number of masks.
func TestPromise10EachNumberOfVotes(t *testing.T) {
	for n := 1; n <= impl.MaxCopies; n++ {
		masks := make([]impl.Mask, n)
		for i := range masks {
			var holes []int64
			for votes := range n + 1 { // the hole with the number 5 * votes gets so many
				if i < votes {
					holes = append(holes, int64(5*votes))
				}
			}
			masks[i] = maskOf(holes...)
		}
		checkVotes(t, masks)
		majority, _ := impl.MajorityOf(masks)
		for votes := range n + 1 {
			got, _ := impl.VotesFor(masks, int64(5*votes))
			same(t, label("votes", n, votes), got, int64(votes))
			same(t, label("majority", n, votes), isNotched(majority, int64(5*votes)), 2*votes > n)
		}
	}
}

// What masks agree on is their majority, also if it is just more than a half of them; a half is not enough.
func TestPromise10MajoritiesAgree(t *testing.T) {
	r := rand.New(rand.NewSource(121))
	for n := 1; n <= impl.MaxCopies; n++ {
		for range 10 {
			m := randomMask(r)
			masks := slices.Repeat([]impl.Mask{m}, n)
			for i := range (n - 1) / 2 {
				masks[i] = randomMask(r)
			}
			r.Shuffle(n, func(i, k int) { masks[i], masks[k] = masks[k], masks[i] })
			got, code := impl.MajorityOf(masks)
			same(t, label("MajorityOf", n), []any{got, code}, []any{m, int64(impl.OK)})
		}
	}
	half := []impl.Mask{maskOf(1, 2, 70), maskOf(2, 70), maskOf(2, 3), maskOf(3)}
	got, code := impl.MajorityOf(half)
	same(t, "a half", []any{got, code}, []any{maskOf(2), int64(impl.OK)})
	got, code = impl.MajorityOf([]impl.Mask{maskOf(1, 2), maskOf(2, 3)})
	same(t, "one of two", []any{got, code}, []any{maskOf(2), int64(impl.OK)})
}

func TestPromise10LonelyHolesByHand(t *testing.T) {
	for i, x := range []struct {
		masks []impl.Mask
		want  impl.Mask
		code  int64
	}{
		{nil, impl.Mask{}, impl.ErrNotFound},
		{[]impl.Mask{maskOf(1)}, impl.Mask{}, impl.ErrNotFound},
		{[]impl.Mask{maskOf(1), maskOf(2)}, impl.Mask{}, impl.ErrNotFound},
		{[]impl.Mask{maskOf(1), maskOf(1), maskOf(1)}, impl.Mask{}, impl.OK},
		{[]impl.Mask{maskOf(1, 95), maskOf(1), maskOf(2)}, maskOf(1, 2, 95), impl.OK},
		{[]impl.Mask{maskOf(1), maskOf(1), maskOf(2), maskOf(2)}, impl.Mask{}, impl.OK},
		{[]impl.Mask{maskOf(1, 3), maskOf(1, 3), maskOf(1, 2), maskOf(0, 2)}, maskOf(0, 1), impl.OK},
	} {
		m, code := impl.LonelyHoles(x.masks)
		same(t, label("LonelyHoles", i), []any{m, code}, []any{x.want, x.code})
	}
}

func checkRepair(t *testing.T, f impl.Field, m impl.Mask, copies []impl.Mask) int64 {
	t.Helper()
	want, wantHow, wantCode := repairIn(f, m, copies)
	got, how, code := impl.RepairField(f, m, copies)
	if got != want || how != wantHow || code != wantCode {
		t.Fatalf("RepairField %v %v %v: got %v, %d, %d, want %v, %d, %d", f, holesIn(m), copies, holesIn(got), how, code, holesIn(want), wantHow, wantCode)
	}
	if code == impl.OK {
		before, _ := readIn(f, m)
		after, fault := readIn(f, got)
		same(t, "what is beside a repaired field", lessOf(got, partMask(f)), lessOf(m, partMask(f)))
		if how == 0 && (before != after || got != m) || how > 0 && fault != impl.OK {
			t.Fatalf("RepairField %v %v: %d has become %d", f, holesIn(m), before, after)
		}
	}
	return how
}

// A field that can be read, or is empty, stays as it is, whatever copies say.
func TestPromise10WhatCanBeReadStays(t *testing.T) {
	r := rand.New(rand.NewSource(122))
	for _, f := range fieldsAtPlaces() {
		part := partMask(f)
		for _, value := range someValues(r, f) {
			for _, other := range someValues(r, f) {
				copies := slices.Repeat([]impl.Mask{codeMask(f, other)}, r.Intn(impl.MaxCopies+1))
				for _, kept := range []impl.Mask{{}, codeMask(f, value)} {
					m := joined(lessOf(randomMask(r), part), kept)
					got, how, code := impl.RepairField(f, m, copies)
					same(t, label("RepairField", f, value, other), []any{got, how, code}, []any{m, int64(0), int64(impl.OK)})
				}
			}
		}
	}
}

// All masks of fields with few holes, without copies, and with copies that agree, half of which agree, and that cannot be read.
func TestPromise10RepairsOfAllMasks(t *testing.T) {
	for _, f := range allForms() {
		width := widthOf(f.Kind, int64(f.Size))
		if width > 8 {
			continue
		}
		f.Start = 60
		part := holesIn(partMask(f))
		first, last := codeMask(f, 0), codeMask(f, valuesOf(f.Kind, int64(f.Size))-1)
		none := impl.Mask{}
		for set := range int64(1) << width {
			var holes []int64
			for i, hole := range part {
				if set>>i&1 == 1 {
					holes = append(holes, hole)
				}
			}
			m := joined(maskOf(holes...), maskOf(1, 94))
			for _, copies := range [][]impl.Mask{
				nil,
				{first},
				{last, last, first},
				{first, last},
				{first, none, none, none},
				{none, none},
				{m, m, m},
				{m, last, fullMask},
			} {
				checkRepair(t, f, m, copies)
			}
		}
	}
}

func TestPromise10RepairsByCopies(t *testing.T) {
	r := rand.New(rand.NewSource(123))
	hows := map[int64]int{}
	for _, f := range damagedForms() {
		for range 8 {
			value := r.Int63n(valuesOf(f.Kind, int64(f.Size)))
			copies := make([]impl.Mask, r.Intn(impl.MaxCopies+1))
			for i := range copies {
				copies[i] = damagedMask(r, f)
				if r.Intn(2) == 0 {
					copies[i] = joined(lessOf(randomMask(r), partMask(f)), codeMask(f, value))
				}
			}
			hows[checkRepair(t, f, damagedMask(r, f), copies)]++
		}
	}
	if hows[0] == 0 || hows[1] == 0 {
		t.Errorf("repairs were not tried: %v", hows)
	}
}

// Just more than a half of the copies that can be read have to agree; those that are empty or stand for no value do not count.
func TestPromise10RepairsByHand(t *testing.T) {
	pairs := impl.Field{Name: "p", Kind: impl.KdPairs, Start: 10, Size: 1}
	wrong, none := maskOf(3, 10), maskOf(5)
	zero, nine := maskOf(10, 11, 90), maskOf(13, 14)
	for i, x := range []struct {
		copies []impl.Mask
		want   impl.Mask
		how    int64
		code   int64
	}{
		{nil, impl.Mask{}, 0, impl.ErrState},
		{[]impl.Mask{zero}, maskOf(3, 10, 11), 1, impl.OK},
		{[]impl.Mask{nine, nine}, maskOf(3, 13, 14), 1, impl.OK},
		{[]impl.Mask{zero, nine}, impl.Mask{}, 0, impl.ErrState},
		{[]impl.Mask{zero, nine, nine}, maskOf(3, 13, 14), 1, impl.OK},
		{[]impl.Mask{zero, nine, nine, zero}, impl.Mask{}, 0, impl.ErrState},
		{[]impl.Mask{zero, nine, maskOf(11, 12)}, impl.Mask{}, 0, impl.ErrState},
		{[]impl.Mask{zero, zero, nine, maskOf(11, 12)}, impl.Mask{}, 0, impl.ErrState},
		{[]impl.Mask{zero, zero, zero, nine, maskOf(11, 12)}, maskOf(3, 10, 11), 1, impl.OK},
		{[]impl.Mask{none, none, none}, impl.Mask{}, 0, impl.ErrState},
		{[]impl.Mask{wrong, wrong, wrong}, impl.Mask{}, 0, impl.ErrState},
		{[]impl.Mask{wrong, none, wrong, zero, none}, maskOf(3, 10, 11), 1, impl.OK},
		{[]impl.Mask{maskOf(10, 11, 12), zero, maskOf(14), none}, maskOf(3, 10, 11), 1, impl.OK},
		{slices.Repeat([]impl.Mask{zero}, impl.MaxCopies), maskOf(3, 10, 11), 1, impl.OK},
	} {
		m, how, code := impl.RepairField(pairs, wrong, x.copies)
		same(t, label("RepairField", i), []any{m, how, code}, []any{x.want, x.how, x.code})
	}
}

// Without copies a field is repaired if just one code is near it. With the codes that there are none is: what stands for no value has no code near it, or at least two of them.
func TestPromise10RepairsByTheNearestCode(t *testing.T) {
	for _, f := range allForms() {
		width := widthOf(f.Kind, int64(f.Size))
		if width > 10 {
			continue
		}
		for set := int64(1); set < int64(1)<<width; set++ {
			m := impl.Mask{uint64(set), 1}
			if _, code := readIn(f, m); code != impl.ErrProof {
				continue
			}
			if near, _ := impl.ValuesNear(f, m, 1); len(near) == 1 {
				t.Fatalf("%v: just %v is near %v", f, near, holesIn(m))
			}
			checkRepair(t, f, m, nil)
		}
	}
}

// repairedIn tells what becomes of all fields of a card, and how.
func repairedIn(list []impl.Field, c impl.Card, copies []impl.Card) (impl.Card, []int64) {
	var masks []impl.Mask
	for _, other := range copies {
		masks = append(masks, other.Notches)
	}
	before := c.Notches
	hows := []int64{}
	for _, f := range list {
		m, how, code := repairIn(f, before, masks)
		if code != impl.OK {
			hows = append(hows, -1)
			continue
		}
		c.Notches = joined(lessOf(c.Notches, partMask(f)), met(m, partMask(f)))
		hows = append(hows, how)
	}
	return c, hows
}

func TestPromise10RepairsOfCards(t *testing.T) {
	r := rand.New(rand.NewSource(124))
	for _, list := range goodSchemes() {
		for n := range impl.MaxCopies + 1 {
			values := make([]impl.Mask, len(list))
			for i, f := range list {
				values[i] = codeMask(f, r.Int63n(valuesOf(f.Kind, int64(f.Size))))
			}
			card := func() impl.Card {
				m := randomMask(r)
				for i, f := range list {
					kept := values[i]
					if r.Intn(2) == 0 {
						kept = met(damagedMask(r, f), partMask(f))
					}
					m = joined(lessOf(m, partMask(f)), kept)
				}
				return impl.Card{Name: nameOf(r.Intn(3)), Notches: m}
			}
			c, copies := card(), []impl.Card{}
			for range n {
				copies = append(copies, card())
			}
			want, wantHows := repairedIn(list, c, copies)
			got, hows, code := impl.RepairCard(list, c, copies)
			same(t, label("RepairCard", list, c, copies), []any{got, code}, []any{want, int64(impl.OK)})
			same(t, label("hows", list, c, copies), hows, wantHows)
		}
	}
}

// One field can be read, one is empty, one is repaired by copies, and one cannot be; the card keeps its name and its other holes.
func TestPromise10RepairsOfCardsByHand(t *testing.T) {
	list := []impl.Field{
		{Name: "read", Kind: impl.KdDirect, Start: 0, Size: 4},
		{Name: "empty", Kind: impl.KdBinary, Start: 10, Size: 3},
		{Name: "mended", Kind: impl.KdPairs, Start: 20, Size: 1},
		{Name: "lost", Kind: impl.KdSum, Start: 62, Size: 1},
	}
	c := impl.Card{Name: "ant", Notches: maskOf(2, 8, 20, 62, 63, 64, 65, 95)}
	copies := []impl.Card{{Name: "bee", Notches: maskOf(1, 10, 21, 22, 62)}, {Name: "ant", Notches: maskOf(1, 10, 21, 22, 63, 80)}, {Name: "bee", Notches: maskOf(1, 13, 20)}}
	got, hows, code := impl.RepairCard(list, c, copies)
	want := impl.Card{Name: "ant", Notches: maskOf(2, 8, 21, 22, 62, 63, 64, 65, 95)}
	same(t, "RepairCard", []any{got, hows, code}, []any{want, []int64{0, 0, 1, -1}, int64(impl.OK)})
	got, hows, code = impl.RepairCard(list, c, nil)
	same(t, "without copies", []any{got, hows, code}, []any{c, []int64{0, 0, -1, -1}, int64(impl.OK)})
	got, hows, code = impl.RepairCard(nil, c, copies)
	same(t, "without fields", []any{got, len(hows), code}, []any{c, 0, int64(impl.OK)})
}
