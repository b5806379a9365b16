package swipe_test

import (
	"testing"

	"swipe/api"
	"swipe/swipe"
)

// backKinds: the kinds of requests that take back, each with the other one.
var backKinds = map[string]string{"0400": "0420", "0420": "0400"}

// spending: a switch with which Ann has spent this much of 500 already, with the trace 1, here.
func spending(t *testing.T, amount int) *swipe.Switch {
	t.Helper()
	s := made(t, usual())
	wantAnswer(t, s, ask(ann, amount, 1, here), told(ann, amount, 1, "00", here))
	return s
}

// wantBack: the answer to this request of Ann's, with the trace 1, here, has this amount and code; and so much is left behind it.
func wantBack(t *testing.T, s *swipe.Switch, kind string, amount, want int, code string, left int) {
	t.Helper()
	wantAnswer(t, s, back(kind, ann, amount, 1, here), toldBack(kind, ann, want, 1, code, here))
	wantLeft(t, s, ann, left)
	wantTotal(t, s, 500-left)
}

func TestTakingBackAsTheDocumentTells(t *testing.T) {
	s := made(t, usual())
	wantAnswer(t, s, ask(ann, 300, 1, here), told(ann, 300, 1, "00", here))
	wantAnswer(t, s, ask(ann, 300, 2, here), told(ann, 300, 2, "51", here))
	wantAnswer(t, s, ask(ann, 200, 3, here), told(ann, 200, 3, "00", here))
	wantAnswer(t, s, ask(ann, 300, 1, here), told(ann, 300, 1, "00", here))
	wantBack(t, s, "0400", 100, 100, "00", 100)
	wantBack(t, s, "0400", 100, 100, "00", 100)
	wantBack(t, s, "0420", 100, 100, "25", 100)
}

func TestTakingBackAmounts(t *testing.T) {
	for kind := range backKinds {
		for _, spent := range []int{1, 2, 300, 499, 500} {
			for _, amount := range []int{0, 1, spent - 1, spent, spent + 1, 500, 501, api.MaxAmount} {
				s := spending(t, spent)
				if amount == 0 || amount > spent {
					wantBack(t, s, kind, amount, amount, "13", 500-spent)
				} else {
					wantBack(t, s, kind, amount, amount, "00", 500-spent+amount)
				}
			}
		}
	}
}

func TestTakingBackTheGreatestAmounts(t *testing.T) {
	const most = api.MaxAmount
	for kind := range backKinds {
		for _, c := range []struct {
			spent, amount int
			code          string
		}{{most, most, "00"}, {most, most - 1, "00"}, {most - 1, most, "13"}, {most - 1, most - 1, "00"}, {most, 0, "13"}, {most, 1, "00"}} {
			config := usual()
			config.Cards[0].Limit = most
			s := made(t, config)
			wantAnswer(t, s, ask(ann, c.spent, api.MaxTrace, here), told(ann, c.spent, api.MaxTrace, "00", here))
			wantAnswer(t, s, back(kind, ann, c.amount, api.MaxTrace, here), toldBack(kind, ann, c.amount, api.MaxTrace, c.code, here))
			total := c.spent
			if c.code == "00" {
				total -= c.amount
			}
			wantLeft(t, s, ann, most-total)
			wantTotal(t, s, total)
		}
	}
}

// TestTakingBackFromAGreatTotal: what is more of the total goes down too.
func TestTakingBackFromAGreatTotal(t *testing.T) {
	config := api.Config{Routes: []string{"7"}, Shards: 3, Cards: manyCards(3)}
	for k := range config.Cards {
		config.Cards[k].Limit = api.MaxAmount
	}
	s := made(t, config)
	for k, card := range config.Cards {
		wantAnswer(t, s, ask(card.Pan, api.MaxAmount, k, here), told(card.Pan, api.MaxAmount, k, "00", here))
	}
	wantAnswer(t, s, askTotal(1), toldTotal(1, api.MaxAmount-2, 2))
	for k, card := range config.Cards {
		wantAnswer(t, s, back("0400", card.Pan, api.MaxAmount-1, k, here), toldBack("0400", card.Pan, api.MaxAmount-1, k, "00", here))
		wantTotal(t, s, 3*api.MaxAmount-(k+1)*(api.MaxAmount-1))
	}
	wantAnswer(t, s, askTotal(1), toldTotal(1, 3, 0))
}

func TestTakingBackOnNoRouteOrOfNoCard(t *testing.T) {
	for kind := range backKinds {
		s := spending(t, 300)
		for _, amount := range []int{0, 5, 5, 300, 301, api.MaxAmount, 0} {
			wantAnswer(t, s, back(kind, cat, amount, 1, here), toldBack(kind, cat, amount, 1, "15", here))
			wantAnswer(t, s, back(kind, nobody, amount, 1, here), toldBack(kind, nobody, amount, 1, "14", here))
			wantAnswer(t, s, back(kind, "5999999999999", amount, 1, here), toldBack(kind, "5999999999999", amount, 1, "15", here))
		}
		wantLeft(t, s, cat, 1000)
		wantLeft(t, s, ann, 200)
		wantTotal(t, s, 300)
	}
}

// TestTakingBackWhatWasNotSpent: nothing was asked for, or it was refused.
func TestTakingBackWhatWasNotSpent(t *testing.T) {
	for kind := range backKinds {
		s := made(t, usual())
		for _, amount := range []int{0, 1, 500, api.MaxAmount} {
			wantBack(t, s, kind, amount, amount, "25", 500)
		}
		s = made(t, usual())
		wantAnswer(t, s, ask(ann, 0, 1, here), told(ann, 0, 1, "13", here))
		for _, amount := range []int{0, 1} {
			wantBack(t, s, kind, amount, amount, "25", 500)
		}
		s = made(t, usual())
		wantAnswer(t, s, ask(ann, 501, 1, here), told(ann, 501, 1, "51", here))
		for _, amount := range []int{0, 1, 500, 501} {
			wantBack(t, s, kind, amount, amount, "25", 500)
		}
	}
}

// TestTakingBackWithAnotherCardTraceOrPlace takes nothing back: the first request is not the one that is meant.
func TestTakingBackWithAnotherCardTraceOrPlace(t *testing.T) {
	for kind := range backKinds {
		s := spending(t, 300)
		for _, c := range []struct {
			pan   string
			trace int
			place string
		}{
			{bob, 1, here}, {ann, 2, here}, {ann, 0, here}, {ann, 10, here}, {ann, api.MaxTrace, here}, {ann, 1, there},
			{ann, 1, "        "}, {ann, 1, "term0001"}, {ann, 1, "TERM000 "}, {ann, 1, " TERM001"},
		} {
			wantAnswer(t, s, back(kind, c.pan, 5, c.trace, c.place), toldBack(kind, c.pan, 5, c.trace, "25", c.place))
			wantLeft(t, s, ann, 200)
			wantLeft(t, s, bob, 1000)
			wantTotal(t, s, 300)
		}
		wantBack(t, s, kind, 5, 5, "00", 205)
	}
}

// TestEachIsTakenBackForItself: the same trace with other cards and places.
func TestEachIsTakenBackForItself(t *testing.T) {
	s := made(t, usual())
	for k, c := range []struct{ pan, place string }{{ann, here}, {ann, there}, {bob, here}, {bob, there}} {
		wantAnswer(t, s, ask(c.pan, 10+k, 1, c.place), told(c.pan, 10+k, 1, "00", c.place))
	}
	wantTotal(t, s, 46)
	wantAnswer(t, s, back("0400", ann, 11, 1, here), toldBack("0400", ann, 11, 1, "13", here))
	wantAnswer(t, s, back("0400", ann, 11, 1, there), toldBack("0400", ann, 11, 1, "00", there))
	wantAnswer(t, s, back("0420", bob, 13, 1, here), toldBack("0420", bob, 13, 1, "13", here))
	wantAnswer(t, s, back("0420", bob, 13, 1, there), toldBack("0420", bob, 13, 1, "00", there))
	wantLeft(t, s, ann, 490)
	wantLeft(t, s, bob, 988)
	wantTotal(t, s, 22)
	wantAnswer(t, s, back("0420", ann, 10, 1, here), toldBack("0420", ann, 10, 1, "00", here))
	wantAnswer(t, s, back("0400", bob, 12, 1, here), toldBack("0400", bob, 12, 1, "00", here))
	wantTotal(t, s, 0)
}

// TestTakingBackThatComesAgain: answered 00 or 13, it is so again, with the amount of then, whatever the amount is now.
func TestTakingBackThatComesAgain(t *testing.T) {
	amounts := []int{0, 1, 99, 100, 101, 300, 301, api.MaxAmount}
	for kind := range backKinds {
		for _, c := range []struct {
			amount int
			code   string
			left   int
		}{{100, "00", 300}, {300, "00", 500}, {1, "00", 201}, {0, "13", 200}, {301, "13", 200}} {
			s := spending(t, 300)
			wantBack(t, s, kind, c.amount, c.amount, c.code, c.left)
			for _, amount := range amounts {
				wantBack(t, s, kind, amount, c.amount, c.code, c.left)
				wantAnswer(t, s, backAs(kind, ann, amount, 1, here, "Ann"), toldBack(kind, ann, c.amount, 1, c.code, here))
			}
		}
	}
}

// TestWhatWasAnswered25IsAnsweredAnew: it may be there to be taken back by now.
func TestWhatWasAnswered25IsAnsweredAnew(t *testing.T) {
	for kind, other := range backKinds {
		s := made(t, usual())
		wantBack(t, s, kind, 7, 7, "25", 500)
		wantBack(t, s, kind, 8, 8, "25", 500)
		wantBack(t, s, other, 9, 9, "25", 500)
		wantAnswer(t, s, ask(ann, 300, 1, here), told(ann, 300, 1, "00", here))
		wantBack(t, s, kind, 301, 301, "13", 200)
		wantBack(t, s, other, 10, 10, "00", 210)
		s = made(t, usual())
		wantBack(t, s, kind, 7, 7, "25", 500)
		wantAnswer(t, s, ask(ann, 300, 1, here), told(ann, 300, 1, "00", here))
		wantBack(t, s, kind, 8, 8, "00", 208)
		wantBack(t, s, kind, 7, 8, "00", 208)
	}
}

// TestTakenBackByTheOtherKind: what one kind has taken back the other one can't, with any amount.
func TestTakenBackByTheOtherKind(t *testing.T) {
	for kind, other := range backKinds {
		s := spending(t, 300)
		wantBack(t, s, kind, 100, 100, "00", 300)
		for _, amount := range []int{100, 1, 200, 0, 300, 301, 100} {
			wantBack(t, s, other, amount, amount, "25", 300)
			wantBack(t, s, kind, amount, 100, "00", 300)
		}
	}
}

// TestARefusalOfOneKindDoesNotBindTheOther: 13 takes nothing back, and is remembered of its kind alone.
func TestARefusalOfOneKindDoesNotBindTheOther(t *testing.T) {
	for kind, other := range backKinds {
		s := spending(t, 300)
		wantBack(t, s, kind, 301, 301, "13", 200)
		wantBack(t, s, other, 100, 100, "00", 300)
		wantBack(t, s, kind, 100, 301, "13", 300)
		wantBack(t, s, other, 50, 100, "00", 300)
		s = spending(t, 300)
		wantBack(t, s, kind, 0, 0, "13", 200)
		wantBack(t, s, other, 301, 301, "13", 200)
		wantBack(t, s, kind, 5, 0, "13", 200)
		wantBack(t, s, other, 5, 301, "13", 200)
	}
}

// TestSpendingThatComesAgainBehindTakingBack: the answer of then, nothing is spent again, and nothing can be taken back again.
func TestSpendingThatComesAgainBehindTakingBack(t *testing.T) {
	for kind, other := range backKinds {
		s := spending(t, 300)
		wantBack(t, s, kind, 300, 300, "00", 500)
		for _, amount := range []int{300, 1, 0, 501} {
			wantAnswer(t, s, ask(ann, amount, 1, here), told(ann, 300, 1, "00", here))
			wantLeft(t, s, ann, 500)
			wantBack(t, s, other, 300, 300, "25", 500)
			wantBack(t, s, kind, amount, 300, "00", 500)
		}
	}
}

// TestSpendingThatWasRefusedStaysRefused, even if by now enough is left again.
func TestSpendingThatWasRefusedStaysRefused(t *testing.T) {
	for kind := range backKinds {
		s := spending(t, 300)
		wantAnswer(t, s, ask(ann, 400, 2, here), told(ann, 400, 2, "51", here))
		wantBack(t, s, kind, 300, 300, "00", 500)
		wantAnswer(t, s, ask(ann, 400, 2, here), told(ann, 400, 2, "51", here))
		wantAnswer(t, s, back(kind, ann, 400, 2, here), toldBack(kind, ann, 400, 2, "25", here))
		wantAnswer(t, s, ask(ann, 400, 3, here), told(ann, 400, 3, "00", here))
		wantLeft(t, s, ann, 100)
		wantTotal(t, s, 400)
	}
}

// TestWhatWasTakenBackIsSpentAgain: to the last bit, and no more than that.
func TestWhatWasTakenBackIsSpentAgain(t *testing.T) {
	for kind := range backKinds {
		s := spending(t, 500)
		wantBack(t, s, kind, 120, 120, "00", 120)
		wantAnswer(t, s, ask(ann, 121, 2, here), told(ann, 121, 2, "51", here))
		wantAnswer(t, s, ask(ann, 120, 3, here), told(ann, 120, 3, "00", here))
		wantAnswer(t, s, ask(ann, 1, 4, here), told(ann, 1, 4, "51", here))
		wantLeft(t, s, ann, 0)
		wantTotal(t, s, 500)
		wantAnswer(t, s, back(kind, ann, 120, 3, here), toldBack(kind, ann, 120, 3, "00", here))
		wantLeft(t, s, ann, 120)
	}
}

func TestTakingBackWithAName(t *testing.T) {
	for kind := range backKinds {
		for _, name := range []string{"", "Ann", "Somebody else", "山田太郎"} {
			s := spending(t, 300)
			wantAnswer(t, s, backAs(kind, ann, 40, 1, here, name), toldBack(kind, ann, 40, 1, "00", here))
			wantBack(t, s, kind, 50, 40, "00", 240)
		}
	}
}

// TestTakingBackThatIsNoMessage: nothing is taken back by it.
func TestTakingBackThatIsNoMessage(t *testing.T) {
	for kind := range backKinds {
		s := spending(t, 300)
		good := back(kind, ann, 40, 1, here)
		for _, c := range []struct{ frame, want string }{
			{good[:len(good)-1], "R4"},
			{good + "x", "R4"},
			{back(kind, ann, 40, 1, "TERM000\x1f"), "R4"},
			{backAs(kind, ann, 40, 1, here, "\x7f"), "R4"},
			{good[:2] + bitmap(2, 4, 11) + good[10:len(good)-8], "R3"},
			{bcd("0401") + good[2:], "R2"},
			{bcd("0440") + good[2:], "R2"},
			{toldBack(kind, ann, 40, 1, "00", here), "R5"},
		} {
			wantAnswer(t, s, c.frame, refused(c.want))
			wantLeft(t, s, ann, 200)
		}
		wantBack(t, s, kind, 40, 40, "00", 240)
	}
}

// TestTakingBackInOneCall: request by request, in the order of the frames, over whichever connection they come.
func TestTakingBackInOneCall(t *testing.T) {
	for shards := 1; shards <= api.MaxShards; shards++ {
		c := usual()
		c.Shards = shards
		s := made(t, c)
		wantServed(t, s, []api.Chunk{
			{Conn: 2, Data: framed(back("0400", ann, 5, 1, here), ask(ann, 500, 1, here), askTotal(1))},
			{Conn: 1, Data: framed(ask(ann, 50, 2, here), back("0420", ann, 60, 1, here), askTotal(2), ask(ann, 50, 3, here))},
			{Conn: 2, Data: framed(back("0400", ann, 5, 1, here), askTotal(3), ask(bob, 7, 1, here), askTotal(4))},
			{Conn: 0, Data: framed(back("0400", bob, 7, 1, here), askTotal(5), back("0400", ann, 50, 3, here), back("0420", ann, 50, 3, here), askTotal(6))},
		}, map[int]string{
			2: framed(toldBack("0400", ann, 5, 1, "25", here), told(ann, 500, 1, "00", here), toldTotal(1, 500, 0),
				toldBack("0400", ann, 5, 1, "25", here), toldTotal(3, 490, 0), told(bob, 7, 1, "00", here), toldTotal(4, 497, 0)),
			1: framed(told(ann, 50, 2, "51", here), toldBack("0420", ann, 60, 1, "00", here), toldTotal(2, 440, 0), told(ann, 50, 3, "00", here)),
			0: framed(toldBack("0400", bob, 7, 1, "00", here), toldTotal(5, 490, 0), toldBack("0400", ann, 50, 3, "00", here), toldBack("0420", ann, 50, 3, "25", here), toldTotal(6, 440, 0)),
		})
		wantLeft(t, s, ann, 60)
		wantLeft(t, s, bob, 1000)
		wantTotal(t, s, 440)
	}
}

// TestEachShortHistory: all that can happen with one card, trace and place, five requests long, is answered as the book tells it.
func TestEachShortHistory(t *testing.T) {
	type request struct {
		kind   string
		amount int
	}
	requests := []request{
		{"0100", 0}, {"0100", 2}, {"0100", 4},
		{"0400", 0}, {"0400", 2}, {"0400", 3},
		{"0420", 0}, {"0420", 1}, {"0420", 3},
	}
	c := api.Config{Cards: []api.Card{{Pan: ann, Limit: 3}}, Routes: []string{"4"}, Shards: 1}
	const long = 5
	histories := 1
	for range long {
		histories *= len(requests)
	}
	for history := range histories {
		b := newBook(c)
		var data, want string
		for rest, k := history, 0; k < long; k++ {
			r := requests[rest%len(requests)]
			rest /= len(requests)
			data += framed(about(r.kind, ann, r.amount, 1, "", here))
			if r.kind == "0100" {
				want += framed(b.spend(ann, r.amount, 1, here))
			} else {
				want += framed(b.back(r.kind, ann, r.amount, 1, here))
			}
		}
		s := made(t, c)
		answers, e := s.Serve([]api.Chunk{{Conn: 0, Data: data}})
		if e != api.OK || answers[0] != want {
			t.Fatalf("P10: %q is answered %q, want %q", data, answers, want)
		}
		if left, _ := s.Left(ann); left != b.left[ann] || s.Total() != b.total {
			t.Fatalf("P10: behind %q are %d left and %d spent, want %d, %d", data, left, s.Total(), b.left[ann], b.total)
		}
	}
}
