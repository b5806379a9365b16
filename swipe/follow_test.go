package swipe_test

import (
	"maps"
	"math/rand"
	"slices"
	"strings"
	"testing"

	"swipe/api"
	"swipe/swipe"
)

// state: all that a switch tells of its cards.
func state(s *swipe.Switch) string { return strings.Join(s.Report(), "\n") }

// drawnRequest: some request of a card: its kind, number, amount, trace and place.
func drawnRequest(r *rand.Rand, pans []string) (kind, pan string, amount, trace int, place string) {
	kind = []string{"0100", "0100", "0400", "0420"}[r.Intn(4)]
	return kind, pans[r.Intn(len(pans))], r.Intn(300) * r.Intn(2), r.Intn(5), []string{here, there}[r.Intn(2)]
}

// codeOf: the code of an answer to a request of a card.
func codeOf(answer string) string { return answer[len(answer)-10 : len(answer)-8] }

// account: what the answers tell of a card, as a caller can add it up.
type account struct{ spent, back int }

// TestWhatIsLeftAndTheTotal: of each card its limit less what was spent with it and not taken back, never below 0; all these together are the total (P13).
func TestWhatIsLeftAndTheTotal(t *testing.T) {
	r := rand.New(rand.NewSource(5))
	for round := range 5 * api.MaxShards {
		c, pans := manyWith(r, 1+round%api.MaxShards)
		s := made(t, c)
		accounts := map[string]account{}
		counted := map[string]bool{} // the answers 00 that were added up, since the same one comes again
		for range 200 {
			kind, pan, amount, trace, place := drawnRequest(r, pans)
			answer := served(t, s, api.Chunk{Conn: 1, Data: framed(about(kind, pan, amount, trace, "", place))})[1]
			if codeOf(answer) == "00" && !counted[answer] {
				counted[answer] = true
				a := accounts[pan]
				if kind == "0100" {
					a.spent += amount
				} else {
					a.back += amount
				}
				accounts[pan] = a
			}
			wantAddedUp(t, s, c, accounts)
		}
	}
}

// wantAddedUp: what is left of the cards, and the total, is what the answers told.
func wantAddedUp(t *testing.T, s *swipe.Switch, c api.Config, accounts map[string]account) {
	t.Helper()
	total := 0
	for _, card := range c.Cards {
		a := accounts[card.Pan]
		left, e := s.Left(card.Pan)
		if e != api.OK || left != card.Limit-a.spent+a.back || left < 0 || left > card.Limit {
			t.Fatalf("P13: Left(%q) = %d, %d with a limit of %d, of which %d was spent and %d taken back", card.Pan, left, e, card.Limit, a.spent, a.back)
		}
		total += a.spent - a.back
	}
	if s.Total() != total {
		t.Fatalf("P13: Total() = %d, but %d was spent with the cards", s.Total(), total)
	}
}

// TestWhatComesAgainChangesNothing: at once, whatever was answered; and later, unless it was 25, which is answered anew (P13, P10).
func TestWhatComesAgainChangesNothing(t *testing.T) {
	r := rand.New(rand.NewSource(6))
	for round := range 5 * api.MaxShards {
		c, pans := manyWith(r, 1+round%api.MaxShards)
		s := made(t, c)
		answers := map[string]string{} // what is answered again, by requests
		for range 150 {
			kind, pan, amount, trace, place := drawnRequest(r, pans)
			frame := about(kind, pan, amount, trace, "", place)
			answer := served(t, s, api.Chunk{Conn: 1, Data: framed(frame)})[1]
			if codeOf(answer) != "25" {
				answers[frame] = answer
			}
			wantUnchanged(t, s, map[string]string{frame: answer})
		}
		wantUnchanged(t, s, answers)
		wantUnchanged(t, s, answers)
	}
}

// wantUnchanged: requests that come again get these answers, and nothing changes by them.
func wantUnchanged(t *testing.T, s *swipe.Switch, answers map[string]string) {
	t.Helper()
	before, total := state(s), s.Total()
	for _, frame := range slices.Sorted(maps.Keys(answers)) {
		wantServed(t, s, []api.Chunk{{Conn: 2, Data: framed(frame)}}, map[int]string{2: answers[frame]})
		if state(s) != before || s.Total() != total {
			t.Fatalf("P13: %q came again, and changed %q to %q", frame, before, state(s))
		}
	}
}

// TestGivenBackOnceAtMost: however often, by whichever kind and with whichever amounts it is asked for (P13).
func TestGivenBackOnceAtMost(t *testing.T) {
	r := rand.New(rand.NewSource(7))
	for range 300 {
		s := made(t, usual())
		spent := 1 + r.Intn(500)
		wantAnswer(t, s, ask(ann, spent, 1, here), told(ann, spent, 1, "00", here))
		given := map[string]bool{}
		for range 30 {
			kind := []string{"0400", "0420"}[r.Intn(2)]
			before, _ := s.Left(ann)
			answer := served(t, s, api.Chunk{Conn: 1, Data: framed(back(kind, ann, r.Intn(spent+20), 1, here))})[1]
			if codeOf(answer) == "00" {
				given[answer] = true
			}
			after, _ := s.Left(ann)
			if len(given) > 1 || after > 500 || after < before {
				t.Fatalf("P13: of %d spent was given back: %q, and %d is left behind %d", spent, slices.Sorted(maps.Keys(given)), after, before)
			}
		}
	}
}

// TestOneCardOfEachWorkerTakenBack: many frames of all workers' cards in one call, spent and taken back in turns (P11, P13).
func TestOneCardOfEachWorkerTakenBack(t *testing.T) {
	for shards := 1; shards <= api.MaxShards; shards++ {
		c := api.Config{Cards: manyCards(api.MaxCards), Routes: []string{"7"}, Shards: shards}
		for k := range c.Cards {
			c.Cards[k].Limit = 10 + k
		}
		b := newBook(c)
		var chunks []api.Chunk
		want := map[int]string{}
		say := func(conn int, frame, answer string) {
			chunks = append(chunks, api.Chunk{Conn: conn, Data: framed(frame)})
			want[conn] += framed(answer)
		}
		for k := range 1500 {
			pan, trace := c.Cards[k*11%api.MaxCards].Pan, k/60
			say(k%3, ask(pan, 7, trace, here), b.spend(pan, 7, trace, here))
			if k%2 == 0 {
				say(k%5, back("0400", pan, 1+k%8, trace, here), b.back("0400", pan, 1+k%8, trace, here))
			}
			if k%3 == 0 {
				say(k%7, back("0420", pan, 1+k%9, trace, here), b.back("0420", pan, 1+k%9, trace, here))
			}
			say(k%8, askTotal(k), toldTotal(k, b.total, 0))
		}
		s := made(t, c)
		wantServed(t, s, chunks, want)
		wantTotal(t, s, b.total)
		wantReport(t, s, b.report(c.Cards)...)
	}
}
