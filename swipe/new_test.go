package swipe_test

import (
	"fmt"
	"slices"
	"strings"
	"testing"

	"swipe/api"
	"swipe/swipe"
)

// wantConfig: a switch, or ErrConfig.
func wantConfig(t *testing.T, what string, c api.Config, ok bool) {
	t.Helper()
	s, e := swipe.New(c)
	if ok && (s == nil || e != api.OK) {
		t.Errorf("P6: %s: New = %v, %d, want a switch", what, s, e)
	}
	if !ok && (s != nil || e != api.ErrConfig) {
		t.Errorf("P6: %s: New = %v, %d, want nil, ErrConfig", what, s, e)
	}
}

// wantCard: a card may be or may not be, alone, and as the last one of several.
func wantCard(t *testing.T, what string, card api.Card, ok bool) {
	t.Helper()
	wantConfig(t, what, api.Config{Shards: 1, Cards: []api.Card{card}}, ok)
	wantConfig(t, what+", last", api.Config{Shards: 8, Cards: append(manyCards(29), card)}, ok)
	wantConfig(t, what+", first", api.Config{Shards: 8, Cards: append([]api.Card{card}, manyCards(29)...)}, ok)
}

// wantRoute: a route may be or may not be, alone, and as the last one of several.
func wantRoute(t *testing.T, route string, ok bool) {
	t.Helper()
	wantConfig(t, fmt.Sprintf("route %q", route), api.Config{Shards: 1, Routes: []string{route}}, ok)
	wantConfig(t, fmt.Sprintf("route %q, last", route), api.Config{Shards: 1, Routes: append(manyRoutes(9), route)}, ok)
}

func manyCards(n int) []api.Card {
	var l []api.Card
	for k := range n {
		l = append(l, api.Card{Pan: fmt.Sprintf("77%010d", k), Limit: k, Name: "n"})
	}
	return l
}

func manyRoutes(n int) []string { return slices.Repeat([]string{"4"}, n) }

func TestHowManyCardsThereMayBe(t *testing.T) {
	for _, n := range []int{0, 1, 2, api.MaxCards - 1, api.MaxCards} {
		wantConfig(t, fmt.Sprintf("%d cards", n), api.Config{Shards: 1, Cards: manyCards(n)}, true)
	}
	for _, n := range []int{api.MaxCards + 1, 2 * api.MaxCards, 10000} {
		wantConfig(t, fmt.Sprintf("%d cards", n), api.Config{Shards: 1, Cards: manyCards(n)}, false)
	}
}

func TestHowManyRoutesThereMayBe(t *testing.T) {
	for _, n := range []int{0, 1, api.MaxRoutes - 1, api.MaxRoutes} {
		wantConfig(t, fmt.Sprintf("%d routes", n), api.Config{Shards: 1, Routes: manyRoutes(n)}, true)
	}
	for _, n := range []int{api.MaxRoutes + 1, 1000} {
		wantConfig(t, fmt.Sprintf("%d routes", n), api.Config{Shards: 1, Routes: manyRoutes(n)}, false)
	}
}

func TestHowManyShardsThereMayBe(t *testing.T) {
	for n := -20; n <= 300; n++ {
		wantConfig(t, fmt.Sprintf("%d shards", n), api.Config{Shards: n}, n >= 1 && n <= api.MaxShards)
	}
	for _, n := range []int{-1 << 63, 1<<63 - 1, 1 << 32, 1<<32 + 1} {
		wantConfig(t, fmt.Sprintf("%d shards", n), api.Config{Shards: n, Cards: manyCards(3)}, false)
	}
}

func TestNumbersOfCards(t *testing.T) {
	for n := range 120 {
		for _, digit := range []string{"0", "4", "9"} {
			wantCard(t, fmt.Sprintf("a number of %d digits", n), api.Card{Pan: strings.Repeat(digit, n)}, n >= 12 && n <= 19)
		}
	}
	for _, n := range []int{12, 13, 19} {
		for at := range n {
			for _, wrong := range []string{"/", ":", "a", "A", "f", " ", "-", "+", ".", "\x00", "\xff", "é", "٣", "３", "@", "p", "\x10"} {
				pan := strings.Repeat("4", at) + wrong + strings.Repeat("4", n-at-1)
				wantCard(t, fmt.Sprintf("the number %q", pan), api.Card{Pan: pan}, false)
			}
		}
	}
}

func TestLimitsOfCards(t *testing.T) {
	for _, limit := range []int{0, 1, api.MaxAmount - 1, api.MaxAmount} {
		wantCard(t, fmt.Sprintf("a limit of %d", limit), api.Card{Pan: ann, Limit: limit}, true)
	}
	for _, limit := range []int{-1, -500, -api.MaxAmount, api.MaxAmount + 1, 10 * api.MaxAmount, 100 * (api.MaxAmount + 1), 1<<63 - 1, -1 << 63} {
		wantCard(t, fmt.Sprintf("a limit of %d", limit), api.Card{Pan: ann, Limit: limit}, false)
	}
}

func TestNamesOfCards(t *testing.T) {
	for n := range 300 {
		wantCard(t, fmt.Sprintf("a name of %d bytes", n), api.Card{Pan: ann, Name: strings.Repeat("A", n)}, n <= api.MaxName)
	}
	for _, name := range []string{" ", "Zoë", "日本", "\u0080", "\u009f", "~", "\ufffd", "\U0010ffff", strings.Repeat("é", 20), strings.Repeat("\U0001f4b3", 10)} {
		wantCard(t, fmt.Sprintf("the name %q", name), api.Card{Pan: ann, Name: name}, true)
	}
	for _, name := range []string{"\x7f", "a\x7fb", "\x80", "\xff", "a\xc3", "\xc0\x80", "\xed\xa0\x80", "\xf4\x90\x80\x80", strings.Repeat("é", 21), strings.Repeat("a", 10000)} {
		wantCard(t, fmt.Sprintf("the name %.60q", name), api.Card{Pan: ann, Name: name}, false)
	}
	for c := range rune(32) {
		wantCard(t, fmt.Sprintf("the name %q", string(c)), api.Card{Pan: ann, Name: string(c)}, false)
		wantCard(t, fmt.Sprintf("the name %q", "ab"+string(c)), api.Card{Pan: ann, Name: "ab" + string(c)}, false)
	}
}

func TestTwoCardsOfOneNumber(t *testing.T) {
	for _, n := range []int{2, 3, api.MaxCards} {
		for a := range n {
			for b := range a {
				cards := manyCards(n)
				cards[a].Pan = cards[b].Pan
				wantConfig(t, fmt.Sprintf("of %d cards %d and %d alike", n, a, b), api.Config{Shards: 3, Cards: cards}, false)
			}
		}
	}
	cards := []api.Card{{Pan: ann, Limit: 1, Name: "a"}, {Pan: ann, Limit: 2, Name: "b"}}
	wantConfig(t, "one number with two limits and names", api.Config{Shards: 1, Cards: cards}, false)
	cards = []api.Card{{Pan: ann, Limit: 1, Name: "a"}, {Pan: bob, Limit: 1, Name: "a"}}
	wantConfig(t, "one name and limit with two numbers", api.Config{Shards: 1, Cards: cards}, true)
	cards = []api.Card{{Pan: "000000000000"}, {Pan: "0000000000000"}, {Pan: "00000000000000"}}
	wantConfig(t, "one value with several lengths", api.Config{Shards: 1, Cards: cards}, true)
}

func TestRoutes(t *testing.T) {
	for n := range 40 {
		for _, digit := range []string{"0", "9"} {
			wantRoute(t, strings.Repeat(digit, n), n >= 1 && n <= 12)
		}
	}
	for _, n := range []int{1, 2, 12} {
		for at := range n {
			for _, wrong := range []string{"/", ":", "a", " ", "-", "+", "\x00", "\xff", "٣", "*"} {
				wantRoute(t, strings.Repeat("4", at)+wrong+strings.Repeat("4", n-at-1), false)
			}
		}
	}
}

func TestAllThatIsWrongAtOnce(t *testing.T) {
	wantConfig(t, "everything", api.Config{Shards: 99, Cards: append(manyCards(40), manyCards(40)...), Routes: manyRoutes(11)}, false)
	wantConfig(t, "nothing there", api.Config{}, false)
}

func TestAFreshSwitch(t *testing.T) {
	for shards := 1; shards <= api.MaxShards; shards++ {
		c := usual()
		c.Shards = shards
		s := made(t, c)
		wantClosed(t, s)
		wantLeft(t, s, ann, 500)
		wantLeft(t, s, bob, 1000)
		wantLeft(t, s, cat, 1000)
		wantServed(t, s, nil, nil)
		wantTotal(t, s, 0)
	}
	empty := made(t, api.Config{Shards: 1})
	wantClosed(t, empty)
	wantTotal(t, empty, 0)
}

func TestEachCardHasItsOwnLimit(t *testing.T) {
	for shards := 1; shards <= api.MaxShards; shards++ {
		s := made(t, api.Config{Cards: manyCards(api.MaxCards), Routes: []string{"7"}, Shards: shards})
		for k, card := range manyCards(api.MaxCards) {
			wantLeft(t, s, card.Pan, k)
		}
	}
}

func TestTwoSwitchesShareNothing(t *testing.T) {
	one, two := made(t, usual()), made(t, usual())
	wantAnswer(t, one, ask(ann, 300, 1, here), told(ann, 300, 1, "00", here))
	served(t, one, api.Chunk{Conn: 0, Data: "\x00\x00"}, api.Chunk{Conn: 1, Data: "\x00"})
	wantClosed(t, two)
	wantLeft(t, two, ann, 500)
	wantTotal(t, two, 0)
	wantAnswer(t, two, ask(ann, 301, 1, here), told(ann, 301, 1, "00", here))
	wantServed(t, two, []api.Chunk{{Conn: 1, Data: framed(askEcho(1))}}, map[int]string{1: framed(toldEcho(1))})
}
