package tests

import (
	"math/rand"
	"reflect"
	"runtime"
	"slices"
	"strings"
	"sync"
	"testing"
	"time"

	"loop.example/g01261/impl"
)

func hardWears() []impl.Wear { return append(wrongWears(), goodWears()[:12]...) }

func hardCardLists() [][]impl.Card {
	r := rand.New(rand.NewSource(140))
	list := [][]impl.Card{nil, {}, notchedCards(maskOf(20)), notchedCards(randomMasks(r, 16)...), notchedCards(randomMasks(r, 15)...), notchedCards(randomMasks(r, 60)...), notchedCards(randomMasks(r, 61)...)}
	return append(list, wrongCards(), make([]impl.Card, 300000), append(notchedCards(make([]impl.Mask, 300000)...), impl.Card{Name: "ant", Notches: maskOf(96)}))
}

func hardWearTexts() []string {
	return append(hardTexts(), "+3 -5", "+3 -3", "3", "+96", strings.Repeat("+3 ", 300000), strings.Repeat("+0 -1 ", 150000), strings.Repeat(" ", 1000000), strings.Repeat("+", 1000000), "+"+strings.Repeat("0", 1000000))
}

// callsOfWear gives every function what is hard about one of its arguments, beside what is good.
func callsOfWear() []call {
	var list []call
	add := func(takes string, change func(a *wearArgs)) {
		for _, c := range wearCalls() {
			if strings.ContainsAny(c.takes, takes) {
				list = append(list, call{c.name, func() []any { a := goodWearArgs(); change(&a); return c.run(a) }})
			}
		}
	}
	for _, w := range hardWears() {
		add("vw", func(a *wearArgs) { a.v, a.w = w, goodWears()[7] })
		add("vw", func(a *wearArgs) { a.w = w })
		list = append(list, call{"ValidWear", func() []any { return []any{impl.ValidWear(w)} }}, call{"WearText", func() []any { return []any{impl.WearText(w)} }})
	}
	for _, m := range hardMasks() {
		add("m", func(a *wearArgs) { a.m = m })
		add("n", func(a *wearArgs) { a.n = m })
		for _, f := range hardFields() {
			add("m", func(a *wearArgs) { a.m, a.f = m, f })
		}
	}
	for _, masks := range hardMaskLists() {
		add("s", func(a *wearArgs) { a.masks = masks })
	}
	for _, n := range append(hardNumbers(), 1000, 1001) {
		add("arhtu", func(a *wearArgs) { a.value, a.far, a.hole, a.torn, a.filled = n, n, n, n, n })
		add("ctu", func(a *wearArgs) { a.seed, a.torn = uint32(n), 1000 })
	}
	for _, f := range hardFields() {
		add("f", func(a *wearArgs) { a.f, a.value = f, 0 })
		add("f", func(a *wearArgs) { a.f, a.far = f, impl.MaxFar })
	}
	for _, c := range hardCards() {
		add("c", func(a *wearArgs) { a.c = c })
	}
	for _, s := range append(append(wrongSchemes(), goodSchemes()...), make([]impl.Field, 300000)) {
		add("l", func(a *wearArgs) { a.list = s })
		add("l", func(a *wearArgs) { a.list, a.c.Notches, a.copies = s, fullMask, notchedCards(fullMask, fullMask) })
	}
	for _, cards := range hardCardLists() {
		add("dk", func(a *wearArgs) { a.cards, a.copies = cards, cards })
	}
	for _, text := range hardWearTexts() {
		list = append(list, call{"ReadWear", func() []any { w, code := impl.ReadWear(text); return []any{w, code} }})
	}
	return list
}

// The functions of chapter 4 leave their arguments, and what is behind them in the same memory, as they are.
func TestPromise1ArgumentsOfChapter4Stay(t *testing.T) {
	r := rand.New(rand.NewSource(141))
	extra := impl.Field{Name: "extra", Kind: impl.KdSum, Start: 70, Size: 3}
	behind := impl.Card{Name: "behind", Notches: maskOf(1)}
	for _, s := range append(wrongSchemes(), goodSchemes()...) {
		for _, n := range []int{0, 1, 2, 3, 14, 15, 16, 60, 61} {
			a := goodWearArgs()
			masks := randomMasks(r, n)
			cards := notchedCards(masks...)
			spared, whole := spare(masks, maskOf(1), maskOf(2))
			list, fields := spare(s, extra)
			worn, all := spare(cards, behind)
			copies, more := spare(cards, behind, behind)
			a.masks, a.list, a.cards, a.copies = spared, list, worn, copies
			a.c.Notches = randomMask(r)
			for _, c := range wearCalls() {
				c.run(a)
			}
			same(t, "masks", whole, append(slices.Clone(masks), maskOf(1), maskOf(2)))
			same(t, "scheme", fields, append(slices.Clone(s), extra))
			same(t, "cards", all, append(slices.Clone(cards), behind))
			same(t, "copies", more, append(slices.Clone(cards), behind, behind))
		}
	}
}

// What is written into a result is seen neither in an argument nor in another result.
func TestPromise1ResultsOfChapter4AreNew(t *testing.T) {
	a := goodWearArgs()
	for _, c := range wearCalls() {
		want := label(c.run(a)...) // as a text, which nothing can change
		for range 2 {
			for _, x := range c.run(a) {
				switch list := x.(type) {
				case []int64:
					fill(list, -5)
				case []impl.Doubt:
					fill(list, impl.Doubt{Card: -5, Field: -5})
				}
			}
			same(t, c.name, label(c.run(a)...), want)
		}
	}
	same(t, "arguments", a, goodWearArgs())
}

// Calls beside each other have the results that each of them has alone.
func TestPromise1CallsOfChapter4BesideEachOther(t *testing.T) {
	a := goodWearArgs()
	var list []call
	for _, c := range wearCalls() {
		list = append(list, call{c.name, func() []any { return c.run(a) }})
	}
	checkBeside(t, list)
}

// checkBeside checks that calls have the same results beside each other and alone.
func checkBeside(t *testing.T, list []call) {
	t.Helper()
	var want [][]any
	for _, c := range list {
		want = append(want, c.run())
	}
	var group sync.WaitGroup
	wrong := make([]bool, 8)
	for i := range wrong {
		group.Go(func() {
			for range 50 {
				for k, c := range list {
					wrong[i] = wrong[i] || !reflect.DeepEqual(c.run(), want[k])
				}
			}
		})
	}
	group.Wait()
	same(t, "calls beside each other", wrong, make([]bool, 8))
}

// Nothing that a call has started goes on behind it.
func TestPromise1NothingOfChapter4GoesOn(t *testing.T) {
	before := runtime.NumGoroutine()
	for range 50 {
		for _, masks := range hardMaskLists()[:7] {
			impl.VotesFor(masks, 3)
			impl.MajorityOf(masks)
			impl.LonelyHoles(masks)
		}
	}
	checkNoneGoesOn(t, before)
}

// checkNoneGoesOn checks that there are soon no more goroutines than before.
func checkNoneGoesOn(t *testing.T, before int) {
	t.Helper()
	for end := time.Now().Add(10 * time.Second); runtime.NumGoroutine() > before; time.Sleep(time.Millisecond) {
		if time.Now().After(end) {
			t.Fatalf("%d goroutines have become %d", before, runtime.NumGoroutine())
		}
	}
}
