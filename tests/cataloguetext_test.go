package tests

import (
	"math/rand"
	"strconv"
	"strings"
	"testing"

	"loop.example/g01261/impl"
)

func checkCatalogueText(t *testing.T, list []impl.Entry) {
	t.Helper()
	text := impl.CatalogueText(list)
	same(t, label("CatalogueText", list), text, textIn(list))
	back, code := impl.ReadCatalogue(text)
	same(t, label("ReadCatalogue", text), back, list)
	same(t, label("ReadCatalogue", text), code, int64(impl.OK))
}

func TestPromise11CataloguesFromTexts(t *testing.T) {
	r := rand.New(rand.NewSource(180))
	for _, list := range goodCatalogues() {
		checkCatalogueText(t, list)
	}
	for range 500 {
		checkCatalogueText(t, randomCatalogue(r, r.Intn(41)))
	}
	for _, list := range wrongCatalogues() {
		same(t, label("CatalogueText", list), impl.CatalogueText(list), "")
	}
}

func TestPromise11CatalogueTextsByHand(t *testing.T) {
	same(t, "no catalogue", impl.CatalogueText(nil), "")
	none, code := impl.ReadCatalogue("")
	same(t, "no text", []int64{int64(len(none)), code}, []int64{0, impl.OK})
	const text = "hound;see dog\ncat;below the 9 lives\ndog;below the 9 lives\nthe 9 lives\n9\n"
	list := []impl.Entry{seeEntry("hound", 2), belowEntry("cat", 3), belowEntry("dog", 3), topEntry("the 9 lives"), topEntry("9")}
	same(t, "CatalogueText", impl.CatalogueText(list), text)
	back, code := impl.ReadCatalogue(text)
	same(t, "ReadCatalogue", back, list)
	same(t, "ReadCatalogue", code, int64(impl.OK))
	words := []impl.Entry{topEntry("see"), seeEntry("below", 0), belowEntry("see below", 0)}
	same(t, "CatalogueText", impl.CatalogueText(words), "see\nbelow;see see\nsee below;below see\n")
	checkCatalogueText(t, words)
}

// Texts that are almost those of catalogues.
func TestPromise11TextsThatAreNoCatalogues(t *testing.T) {
	const dog = "animal\ndog;below animal\n"
	for _, text := range []string{
		"\n", " ", " \n", "\n\n", ";\n", "dog", "dog\n\n", "\ndog\n", "dog\r\n", "dog \n", " dog\n", "Dog\n", "a  b\n", "dog\ncat", "dog\x00\n", "d\u00f6g\n", "dog\xff\n", strings.Repeat("a", 25) + "\n",
		dog + "hound;see dog", dog + "hound;See dog\n", dog + "hound; see dog\n", dog + "hound ;see dog\n", dog + "hound;see  dog\n", dog + "hound;see dog \n", dog + "hound;see\tdog\n", dog + "hound;seedog\n", dog + "hound;see\n", dog + "hound;see \n", dog + "hound;\n", dog + "hound;;see dog\n", dog + "hound;see dog;\n", dog + "hound;see;dog\n", dog + "hound see dog;\n", dog + ";see dog\n", dog + "hound,see dog\n", dog + "hound:see dog\n", dog + "hound;dog\n", dog + "hound;sees dog\n",
		dog + "hound;see cat\n", dog + "hound;see 1\n", dog + "hound;see hound\n", dog + "hound;see dog;below animal\n", dog + "hound;below animal;see dog\n", dog + "hound;see dog;see dog\n", dog + "hound;see dog\npup;see hound\n", dog + "hound;see dog\npup;below hound\n",
		dog + "cat;below\n", dog + "cat;below \n", dog + "cat;below cat\n", dog + "cat;below lion\n", dog + "cat;below  animal\n", dog + "cat;below animal \n", dog + "cat;Below animal\n", dog + "cat;below animal;below animal\n", dog + "cat;above animal\n", dog + "cat;below animal;\n", dog + "cat;below Animal\n",
		dog + "dog\n", dog + "animal\n", dog + "dog;below animal\n", dog + "dog;see animal\n", dog + "animal;see dog\n",
		"a;below b\nb;below a\n", "a;below b\nb;below c\nc;below a\n", "a;see b\nb;see a\n", "a;below b\nb;below c\nc;below b\n", "a;see b\nb;below c\nc;below b\n", "a;see b\nb;see c\nc\n", "a;below b\nb;see c\nc\n",
		"a;see b\n", "a;below b\n", "a;see \nb\n", "a;below \n", "a\nb;see a\n\n", "a;see b\nb",
		"- a\n", "a\n- b\n", "1;see 2\n", "a;see b\nb\nb\n", "catalogue;a\n",
		textIn(wideCatalogue(41, false, false)), textIn(wideCatalogue(41, false, true)), textIn(longCatalogue(41, false)),
	} {
		list, code := impl.ReadCatalogue(text)
		checkCode(t, label("ReadCatalogue", strconv.Quote(text)), []any{list, code}, impl.ErrSyntax)
	}
	for _, name := range wrongEntryNames() {
		for _, text := range []string{name + "\n", dog + name + "\n", dog + name + ";see dog\n", dog + name + ";below dog\n", dog + "hound;see " + name + "\n", dog + "hound;below " + name + "\n"} {
			if !isCatalogueText(text) {
				list, code := impl.ReadCatalogue(text)
				checkCode(t, label("ReadCatalogue", strconv.Quote(text)), []any{list, code}, impl.ErrSyntax)
			}
		}
	}
}

// isCatalogueText tells whether a text is that of a valid catalogue.
func isCatalogueText(text string) bool {
	if text == "" {
		return true
	}
	lines := strings.Split(text, "\n")
	if lines[len(lines)-1] != "" {
		return false
	}
	lines = lines[:len(lines)-1]
	placeOf := func(name string) int64 {
		for i, line := range lines {
			if strings.Split(line, ";")[0] == name {
				return int64(i)
			}
		}
		return -2
	}
	var list []impl.Entry
	for _, line := range lines {
		parts := strings.Split(line, ";")
		switch {
		case len(parts) == 1:
			list = append(list, topEntry(line))
		case len(parts) == 2 && strings.HasPrefix(parts[1], "see "):
			list = append(list, seeEntry(parts[0], placeOf(parts[1][4:])))
		case len(parts) == 2 && strings.HasPrefix(parts[1], "below "):
			list = append(list, belowEntry(parts[0], placeOf(parts[1][6:])))
		default:
			return false
		}
	}
	return validIn(list)
}

// Whatever is read has just this text, also if a byte of a text has become another one, is gone, or is new.
func TestPromise11TextsWithOneByteWrong(t *testing.T) {
	r := rand.New(rand.NewSource(181))
	read := 0
	for range 6000 {
		text := withOneByteWrong(r, textIn(randomCatalogue(r, 1+r.Intn(12))), "ex019 ;\nsb")
		list, code := impl.ReadCatalogue(text)
		if code == impl.OK {
			read++
			same(t, label("ReadCatalogue", strconv.Quote(text)), []any{textIn(list), validIn(list)}, []any{text, true})
			continue
		}
		checkCode(t, label("ReadCatalogue", strconv.Quote(text)), []any{list, code}, impl.ErrSyntax)
		same(t, label("ReadCatalogue", strconv.Quote(text)), isCatalogueText(text), false)
	}
	if read < 300 {
		t.Errorf("just %d texts are read", read)
	}
}
