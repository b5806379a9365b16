package swipe_test

import (
	"strings"
	"testing"

	"swipe/api"
)

func TestSpendingAsTheDocumentTells(t *testing.T) {
	s := made(t, usual())
	wantAnswer(t, s, ask(ann, 300, 1, here), told(ann, 300, 1, "00", here))
	wantLeft(t, s, ann, 200)
	wantTotal(t, s, 300)
	wantAnswer(t, s, ask(ann, 300, 2, here), told(ann, 300, 2, "51", here))
	wantLeft(t, s, ann, 200)
	wantTotal(t, s, 300)
	wantAnswer(t, s, ask(ann, 200, 3, here), told(ann, 200, 3, "00", here))
	wantLeft(t, s, ann, 0)
	wantTotal(t, s, 500)
	wantAnswer(t, s, ask(ann, 300, 1, here), told(ann, 300, 1, "00", here))
	wantLeft(t, s, ann, 0)
	wantTotal(t, s, 500)
}

func TestAmounts(t *testing.T) {
	for _, limit := range []int{0, 1, 2, 500, api.MaxAmount - 1, api.MaxAmount} {
		for _, amount := range []int{0, 1, limit - 1, limit, limit + 1, api.MaxAmount} {
			if amount < 0 || amount > api.MaxAmount {
				continue
			}
			c := usual()
			c.Cards[0].Limit = limit
			s := made(t, c)
			code, spent := "00", amount
			if amount == 0 {
				code = "13"
			} else if amount > limit {
				code, spent = "51", 0
			}
			wantAnswer(t, s, ask(ann, amount, 1, here), told(ann, amount, 1, code, here))
			wantLeft(t, s, ann, limit-spent)
			wantTotal(t, s, spent)
			// What is left now bounds the next one.
			wantAnswer(t, s, ask(ann, 0, 2, here), told(ann, 0, 2, "13", here))
			if rest := limit - spent; rest < api.MaxAmount {
				wantAnswer(t, s, ask(ann, rest+1, 3, here), told(ann, rest+1, 3, "51", here))
			}
			if rest := limit - spent; rest > 0 {
				wantAnswer(t, s, ask(ann, rest, 4, here), told(ann, rest, 4, "00", here))
			}
			wantAnswer(t, s, ask(ann, 1, 5, here), told(ann, 1, 5, "51", here))
			wantLeft(t, s, ann, 0)
			wantTotal(t, s, limit)
		}
	}
}

func TestCardsSpendTheirOwn(t *testing.T) {
	s := made(t, usual())
	wantAnswer(t, s, ask(ann, 400, 1, here), told(ann, 400, 1, "00", here))
	wantAnswer(t, s, ask(bob, 900, 1, here), told(bob, 900, 1, "00", here))
	wantLeft(t, s, ann, 100)
	wantLeft(t, s, bob, 100)
	wantLeft(t, s, cat, 1000)
	wantTotal(t, s, 1300)
}

func TestNumbersOnNoRoute(t *testing.T) {
	for _, c := range []struct {
		routes []string
		pan    string
		want   string
	}{
		{nil, ann, "15"},
		{[]string{}, nobody, "15"},
		{[]string{"5"}, ann, "15"},
		{[]string{"5"}, cat, "00"},
		{[]string{"4"}, ann, "00"},
		{[]string{"4"}, cat, "15"},
		{[]string{"4"}, nobody, "14"},
		{[]string{"5"}, nobody, "15"},
		{[]string{"9", "8", "4"}, ann, "00"},
		{[]string{"4", "8", "9"}, ann, "00"},
		{[]string{"41"}, ann, "15"},
		{[]string{"400000000000"}, ann, "00"},
		{[]string{"400000000001"}, ann, "15"},
		{[]string{"0"}, ann, "15"},
		{[]string{"2"}, ann, "15"},
		{[]string{"00"}, ann, "15"},
		{[]string{cat}, cat, "00"},
		{[]string{"500000000004"}, cat, "15"},
		{[]string{"0", "1", "2", "3", "5", "6", "7", "8", "9", "4000"}, ann, "00"},
		{[]string{"0", "1", "2", "3", "5", "6", "7", "8", "9", "4001"}, ann, "15"},
		{[]string{"0"}, "0000000000000", "14"},
		{[]string{"41"}, bob, "00"},
		{[]string{"04"}, bob, "15"}, // the 0 ahead in the bytes is not the number's
	} {
		config := usual()
		config.Routes = c.routes
		s := made(t, config)
		wantAnswer(t, s, ask(c.pan, 5, 1, here), told(c.pan, 5, 1, c.want, here))
		spent := 0
		if c.want == "00" {
			spent = 5
		}
		wantTotal(t, s, spent)
	}
}

// TestNoRouteComesAheadOfTheAmount: and so does a card that there is not; and neither is remembered.
func TestNoRouteComesAheadOfTheAmount(t *testing.T) {
	s := made(t, usual())
	for _, amount := range []int{0, 1001, api.MaxAmount, 5, 5, 0} {
		wantAnswer(t, s, ask(cat, amount, 1, here), told(cat, amount, 1, "15", here))
		wantAnswer(t, s, ask(nobody, amount, 1, here), told(nobody, amount, 1, "14", here))
	}
	wantLeft(t, s, cat, 1000)
	wantTotal(t, s, 0)
	// The same trace and place, but a card that there is.
	wantAnswer(t, s, ask(ann, 7, 1, here), told(ann, 7, 1, "00", here))
	wantAnswer(t, s, ask(cat, 7, 1, here), told(cat, 7, 1, "15", here))
	wantAnswer(t, s, ask(nobody, 8, 1, here), told(nobody, 8, 1, "14", here))
	wantAnswer(t, s, ask(ann, 8, 1, here), told(ann, 7, 1, "00", here))
	wantTotal(t, s, 7)
}

func TestNumbersOfEachLength(t *testing.T) {
	c := api.Config{Routes: []string{"0"}, Shards: 3}
	for n := api.MinPan; n <= api.MaxPan; n++ {
		c.Cards = append(c.Cards, api.Card{Pan: strings.Repeat("0", n), Limit: n})
	}
	s := made(t, c)
	for _, card := range c.Cards {
		wantAnswer(t, s, ask(card.Pan, card.Limit, 1, here), told(card.Pan, card.Limit, 1, "00", here))
		wantAnswer(t, s, ask(card.Pan, 1, 2, here), told(card.Pan, 1, 2, "51", here))
	}
	for _, card := range c.Cards {
		wantLeft(t, s, card.Pan, 0)
	}
}

// TestARequestThatComesAgain: whatever was answered, it is answered again, whatever the amount is now.
func TestARequestThatComesAgain(t *testing.T) {
	for _, c := range []struct {
		amount int
		code   string
		spent  int
	}{{0, "13", 0}, {1, "00", 1}, {499, "00", 499}, {500, "00", 500}, {501, "51", 0}, {api.MaxAmount, "51", 0}} {
		s := made(t, usual())
		wantAnswer(t, s, ask(ann, c.amount, 77, here), told(ann, c.amount, 77, c.code, here))
		for _, amount := range []int{c.amount, 0, 1, 2, 500, 501, api.MaxAmount, c.amount} {
			wantAnswer(t, s, ask(ann, amount, 77, here), told(ann, c.amount, 77, c.code, here))
			wantAnswer(t, s, askAs(ann, amount, 77, here, "Ann"), told(ann, c.amount, 77, c.code, here))
			wantLeft(t, s, ann, 500-c.spent)
			wantTotal(t, s, c.spent)
		}
	}
}

func TestARequestThatComesAgainInOneChunk(t *testing.T) {
	s := made(t, usual())
	data := framed(ask(ann, 200, 1, here), ask(ann, 200, 1, here), ask(ann, 1, 1, here), askTotal(1), ask(ann, 0, 2, here), ask(ann, 5, 2, here))
	want := framed(told(ann, 200, 1, "00", here), told(ann, 200, 1, "00", here), told(ann, 200, 1, "00", here), toldTotal(1, 200, 0), told(ann, 0, 2, "13", here), told(ann, 0, 2, "13", here))
	wantServed(t, s, []api.Chunk{{Conn: 0, Data: data}}, map[int]string{0: want})
	wantLeft(t, s, ann, 300)
}

func TestARequestThatComesAgainOverAnotherConnection(t *testing.T) {
	s := made(t, usual())
	for conn := range api.MaxConns {
		wantServed(t, s, []api.Chunk{{Conn: conn, Data: framed(ask(ann, 200+conn, 1, here))}}, map[int]string{conn: framed(told(ann, 200, 1, "00", here))})
	}
	wantTotal(t, s, 200)
}

// TestAnswersStayWhatTheyWere: long after, when nothing is left any more.
func TestAnswersStayWhatTheyWere(t *testing.T) {
	s := made(t, usual())
	answers := map[int]string{}
	for trace := range 200 {
		got := served(t, s, api.Chunk{Conn: 1, Data: framed(ask(ann, trace%40, trace, here))})
		answers[trace] = got[1]
	}
	left, _ := s.Left(ann)
	total := s.Total()
	for trace := range 200 {
		wantServed(t, s, []api.Chunk{{Conn: 6, Data: framed(ask(ann, 1, trace, here))}}, map[int]string{6: answers[trace]})
	}
	wantLeft(t, s, ann, left)
	wantTotal(t, s, total)
}

// TestRequestsThatAreNotTheSame: another card, trace or place makes another request.
func TestRequestsThatAreNotTheSame(t *testing.T) {
	s := made(t, usual())
	spent := 0
	for _, c := range []struct {
		pan   string
		trace int
		place string
	}{
		{ann, 1, here}, {bob, 1, here}, {ann, 2, here}, {ann, 1, there},
		{ann, 0, here}, {ann, api.MaxTrace, here}, {ann, 1, "        "}, {ann, 1, " TERM001"},
		{ann, 1, "term0001"}, {ann, 1, "TERM000 "}, {ann, 1, "~~~~~~~~"}, {ann, 11, here}, {ann, 10, here},
		{ann, 100001, here}, {bob, 2, there},
	} {
		wantAnswer(t, s, ask(c.pan, 2, c.trace, c.place), told(c.pan, 2, c.trace, "00", c.place))
		spent += 2
		wantTotal(t, s, spent)
		wantAnswer(t, s, ask(c.pan, 3, c.trace, c.place), told(c.pan, 2, c.trace, "00", c.place))
		wantTotal(t, s, spent)
	}
}

func TestARequestWithAName(t *testing.T) {
	for _, name := range []string{"", "Ann", "Somebody else", strings.Repeat("é", 20)} {
		s := made(t, usual())
		wantAnswer(t, s, askAs(ann, 9, 1, here, name), told(ann, 9, 1, "00", here))
		wantAnswer(t, s, ask(ann, 9, 1, here), told(ann, 9, 1, "00", here))
		wantLeft(t, s, ann, 491)
	}
}
