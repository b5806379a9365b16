package swipe_test

import (
	"fmt"
	"slices"
	"strings"
	"testing"
	"unicode/utf8"

	"swipe/api"
)

// reported: what a report of one card alone tells.
func reported(t *testing.T, card api.Card) string {
	t.Helper()
	l := made(t, api.Config{Cards: []api.Card{card}, Shards: 1}).Report()
	if len(l) != 1 {
		t.Fatalf("P12: Report() = %q, want one row", l)
	}
	return l[0]
}

func TestReportAsTheDocumentTells(t *testing.T) {
	if got, want := reported(t, api.Card{Pan: "4000000000000002", Limit: 500, Name: "Ann"}), "400000******0002 Ann          500"; got != want {
		t.Errorf("P12: a report tells %q, want %q", got, want)
	}
}

func TestReportOfNoCards(t *testing.T) {
	wantReport(t, made(t, api.Config{Shards: 1}))
	wantReport(t, made(t, api.Config{Shards: 8, Routes: []string{"4"}}))
}

func TestReportOfNumbersOfEachLength(t *testing.T) {
	for _, c := range []struct{ pan, want string }{
		{"123456789012", "123456**9012"},
		{"1234567890123", "123456***0123"},
		{"12345678901234", "123456****1234"},
		{"123456789012345", "123456*****2345"},
		{"1234567890123456", "123456******3456"},
		{"12345678901234567", "123456*******4567"},
		{"123456789012345678", "123456********5678"},
		{"1234567890123456789", "123456*********6789"},
		{"000000000000", "000000**0000"},
	} {
		if got, want := reported(t, api.Card{Pan: c.pan, Limit: 1, Name: "x"}), c.want+" x            1"; got != want {
			t.Errorf("P12: a report tells %q of %s, want %q", got, c.pan, want)
		}
	}
}

func TestReportOfNames(t *testing.T) {
	for _, c := range []struct{ name, want string }{
		{"", "            "},
		{" ", "            "},
		{"a", "a           "},
		{"elevenrunes", "elevenrunes "},
		{"twelve runes", "twelve runes"},
		{"thirteen rune", "thirteen run"},
		{strings.Repeat("0123456789", 4), "012345678901"},
		{"  two ahead", "  two ahead "},
		{"behind  ", "behind      "},
		{"a blank last and more", "a blank last"},
		{"elevenrunes and more", "elevenrunes "},
		{"Zoë Ångström", "Zoë Ångström"},
		{"Zoë Ångström the second", "Zoë Ångström"},
		{"Zoë", "Zoë         "},
		{"山田太郎", "山田太郎        "},
		{strings.Repeat("é", 20), strings.Repeat("é", 12)},
		{strings.Repeat("山", 13), strings.Repeat("山", 12)},
		{strings.Repeat("\U0001f4b3", 10), strings.Repeat("\U0001f4b3", 10) + "  "},
		{"e\u0301e\u0301e\u0301e\u0301e\u0301e\u0301e\u0301", strings.Repeat("e\u0301", 6)}, // a mark is a rune of its own
		{"\u0301", "\u0301           "},
		{"\u200b\u00a0\u0080\ufeff\ufffd", "\u200b\u00a0\u0080\ufeff\ufffd       "},
		{"\U0010ffff\u07ff\u0800\uffff", "\U0010ffff\u07ff\u0800\uffff        "},
	} {
		if got, want := reported(t, api.Card{Pan: ann, Limit: 7, Name: c.name}), "400000******0002 "+c.want+" 7"; got != want {
			t.Errorf("P12: a report tells %q of the name %q, want %q", got, c.name, want)
		}
	}
}

// TestEachRowIsAsWide: whatever runes a name has, one to four bytes each, there are twelve of them or blanks.
func TestEachRowIsAsWide(t *testing.T) {
	for _, c := range []string{"a", "ß", "山", "\U0001f4b3"} {
		for n := 0; n*len(c) <= api.MaxName; n++ {
			got := reported(t, api.Card{Pan: ann, Limit: 7, Name: strings.Repeat(c, n)})
			if want := 16 + 1 + 12 + 1 + 1; utf8.RuneCountInString(got) != want || strings.Count(got, c) != min(n, 12) {
				t.Errorf("P12: a report tells %q of %d times %q, want %d runes", got, n, c, want)
			}
		}
	}
}

func TestReportOfWhatIsLeft(t *testing.T) {
	for _, limit := range []int{0, 1, 9, 10, 500, 1000000, api.MaxAmount} {
		if got, want := reported(t, api.Card{Pan: ann, Limit: limit, Name: "Ann"}), fmt.Sprintf("400000******0002 Ann          %d", limit); got != want {
			t.Errorf("P12: a report tells %q, want %q", got, want)
		}
	}
}

// TestReportIsInOrder: by the numbers as texts, whatever the order of the cards, the names and the limits.
func TestReportIsInOrder(t *testing.T) {
	pans := []string{ // in rising order
		"000000000000", "0000000000000", "0999999999999999999", "100000000000", "1000000000000000000", "100000000001",
		"400000000000", "40000000000000", "4000001111110000", "4000001111120000", "4000002111110000", "500000000000", "9999999999999999999",
	}
	var cards []api.Card
	for k, pan := range pans {
		cards = append(cards, api.Card{Pan: pan, Limit: 100 - k, Name: string(rune('z' - k))})
	}
	var want []string
	for _, card := range cards {
		want = append(want, reported(t, card))
	}
	for turn := range cards {
		for shards := 1; shards <= api.MaxShards; shards++ {
			turned := slices.Concat(cards[turn:], cards[:turn])
			wantReport(t, made(t, api.Config{Cards: turned, Shards: shards}), want...)
			slices.Reverse(turned)
			wantReport(t, made(t, api.Config{Cards: turned, Shards: shards}), want...)
		}
	}
}

func TestReportOfAllCards(t *testing.T) {
	var want []string
	for k := range api.MaxCards {
		want = append(want, fmt.Sprintf("770000**%04d n            %d", k, k))
	}
	for shards := 1; shards <= api.MaxShards; shards++ {
		wantReport(t, made(t, api.Config{Cards: manyCards(api.MaxCards), Shards: shards}), want...)
	}
}

// TestReportOfCardsOnNoRoute: they are cards all the same.
func TestReportOfCardsOnNoRoute(t *testing.T) {
	c := usual()
	c.Routes = nil
	wantReport(t, made(t, c), "400000******0002 Ann          500", "410000***0013 Bob          1000", "500000**0003 Cat          1000")
}

// TestReportGoesAlong with what is spent and taken back; the name of a request is not the card's, and telling changes nothing.
func TestReportGoesAlong(t *testing.T) {
	s := made(t, usual())
	rows := func(ann, bob int) []string {
		return []string{fmt.Sprintf("400000******0002 Ann          %d", ann), fmt.Sprintf("410000***0013 Bob          %d", bob), "500000**0003 Cat          1000"}
	}
	wantReport(t, s, rows(500, 1000)...)
	wantAnswer(t, s, askAs(ann, 450, 1, here, "Zoë"), told(ann, 450, 1, "00", here))
	wantReport(t, s, rows(50, 1000)...)
	wantAnswer(t, s, ask(ann, 51, 2, here), told(ann, 51, 2, "51", here))
	wantAnswer(t, s, ask(bob, 1000, 2, here), told(bob, 1000, 2, "00", here))
	wantAnswer(t, s, ask(cat, 10, 2, here), told(cat, 10, 2, "15", here))
	wantAnswer(t, s, ask(nobody, 10, 2, here), told(nobody, 10, 2, "14", here))
	wantReport(t, s, rows(50, 0)...)
	wantAnswer(t, s, backAs("0400", ann, 449, 1, here, "Zoë"), toldBack("0400", ann, 449, 1, "00", here))
	wantAnswer(t, s, back("0420", bob, 1000, 2, here), toldBack("0420", bob, 1000, 2, "00", here))
	wantReport(t, s, rows(499, 1000)...)
	wantReport(t, s, rows(499, 1000)...)
	wantTotal(t, s, 1)
}
