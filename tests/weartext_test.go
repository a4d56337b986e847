package tests

import (
	"math/rand"
	"strconv"
	"strings"
	"testing"

	"loop.example/g01261/impl"
)

// textOfWear tells the text of wear, hole by hole.
func textOfWear(w impl.Wear) string {
	text := ""
	for hole := range int64(96) {
		if isNotched(w.Torn, hole) {
			text += " +" + strconv.Itoa(int(hole))
		}
		if isNotched(w.Filled, hole) {
			text += " -" + strconv.Itoa(int(hole))
		}
	}
	return strings.TrimPrefix(text, " ")
}

func checkWearText(t *testing.T, w impl.Wear) {
	t.Helper()
	text := impl.WearText(w)
	same(t, label("WearText", w), text, textOfWear(w))
	back, code := impl.ReadWear(text)
	same(t, label("ReadWear", text), []any{back, code}, []any{w, int64(impl.OK)})
}

func TestPromise8WearFromTexts(t *testing.T) {
	r := rand.New(rand.NewSource(130))
	for _, w := range goodWears() {
		checkWearText(t, w)
	}
	for range 500 {
		checkWearText(t, randomWear(r))
	}
	for _, w := range wrongWears() {
		same(t, label("WearText", w), impl.WearText(w), "")
	}
}

func TestPromise8TextsByHand(t *testing.T) {
	same(t, "no wear", impl.WearText(impl.Wear{}), "")
	none, code := impl.ReadWear("")
	same(t, "no text", []any{none, code}, []any{impl.Wear{}, int64(impl.OK)})
	w := impl.Wear{Torn: maskOf(0, 10, 95), Filled: maskOf(2, 63, 64)}
	same(t, "WearText", impl.WearText(w), "+0 -2 +10 -63 -64 +95")
	same(t, "WearText", impl.WearText(impl.Wear{Filled: maskOf(0)}), "-0")
	back, code := impl.ReadWear("+0 -2 +10 -63 -64 +95")
	same(t, "ReadWear", []any{back, code}, []any{w, int64(impl.OK)})
	back, code = impl.ReadWear("-0")
	same(t, "ReadWear", []any{back, code}, []any{impl.Wear{Filled: maskOf(0)}, int64(impl.OK)})
}

// Texts that are almost those of wear.
func TestPromise8TextsThatAreNoWear(t *testing.T) {
	for _, text := range []string{
		" ", "\n", "3", "3 -5", "+3 5", "+", "-", "+ 3", "+-3", "-+3", "++3", "--3", "+a", "a3", "x3", "*3", "3+", "+3-", "+3-5", "+3+5", "+3.0", "+0x3", "+1_0", "+3,-5",
		" +3", "+3 ", "+3  -5", "+3\n", "+3 -5\n", "+3\n-5", "+3\t-5", "\t+3", "+3\x00", "+3\u00a0-5", "+3 -5 ", "+3\r",
		"+03", "-00", "+003", "-05", "+96", "-96", "+97", "+128", "-1000", "+18446744073709551616", "+18446744073709551619", "-9223372036854775809", "+9223372036854775807",
		"-5 +3", "+5 +3", "-5 -3", "+3 +3", "-3 -3", "+3 -3", "-3 +3", "+3 -5 +5", "+3 -5 -5", "+3 +4 -3", "+0 -0",
		"wear +3", "+3 -5 x", "\u2212" + "3", "+\u0663", "\xff3", "+3 \xff", "plus 3", "none", "0",
	} {
		w, code := impl.ReadWear(text)
		same(t, label("ReadWear", strconv.Quote(text)), []any{w, code}, []any{impl.Wear{}, int64(impl.ErrSyntax)})
	}
}

// Whatever is read has just this text, also if a byte of a text has become another one, is gone, or is new.
func TestPromise8TextsWithOneByteWrong(t *testing.T) {
	r := rand.New(rand.NewSource(131))
	for range 3000 {
		text := withOneByteWrong(r, textOfWear(randomWear(r)), "+-0123456789 \n")
		w, code := impl.ReadWear(text)
		switch {
		case code == impl.OK:
			same(t, label("ReadWear", strconv.Quote(text)), []any{textOfWear(w), impl.ValidWear(w)}, []any{text, true})
		default:
			same(t, label("ReadWear", strconv.Quote(text)), []any{w, code, isWearText(text)}, []any{impl.Wear{}, int64(impl.ErrSyntax), false})
		}
	}
}

// isWearText tells whether a text is that of wear: words with a sign and a hole as strconv writes it, each hole greater than the one before.
func isWearText(text string) bool {
	last := -1
	for _, word := range strings.Split(text, " ") {
		if text == "" {
			return true
		}
		if word == "" || word[0] != '+' && word[0] != '-' {
			return false
		}
		hole, err := strconv.Atoi(word[1:])
		if err != nil || strconv.Itoa(hole) != word[1:] || hole <= last || hole > 95 {
			return false
		}
		last = hole
	}
	return true
}
