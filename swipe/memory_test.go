package swipe_test

import (
	"runtime"
	"slices"
	"strings"
	"testing"
	"time"
	"unsafe"

	"swipe/api"
	"swipe/swipe"
)

// lent: a text whose bytes are overwritten when it is given back: whoever has kept it is found out.
func lent(text string) (string, func()) {
	if text == "" {
		return "", func() {}
	}
	b := []byte(text)
	return unsafe.String(&b[0], len(b)), func() {
		for i := range b {
			b[i] = '#'
		}
	}
}

func TestNewKeepsNothing(t *testing.T) {
	c := usual()
	var back []func()
	lend := func(text *string) {
		var give func()
		*text, give = lent(*text)
		back = append(back, give)
	}
	for k := range c.Cards {
		lend(&c.Cards[k].Pan)
		lend(&c.Cards[k].Name)
	}
	for k := range c.Routes {
		lend(&c.Routes[k])
	}
	s := made(t, c)
	for _, give := range back {
		give()
	}
	clear(c.Cards)
	clear(c.Routes)
	wantLeft(t, s, ann, 500)
	wantLeft(t, s, bob, 1000)
	wantLeft(t, s, cat, 1000)
	wantAnswer(t, s, ask(ann, 5, 1, here), told(ann, 5, 1, "00", here))
	wantAnswer(t, s, ask(cat, 5, 1, here), told(cat, 5, 1, "15", here))
	wantLeft(t, s, ann, 495)
	wantReport(t, s, "400000******0002 Ann          495", "410000***0013 Bob          1000", "500000**0003 Cat          1000")
}

func TestServeKeepsNothing(t *testing.T) {
	s := made(t, usual())
	data := framed(ask(ann, 5, 1, here))
	first, giveFirst := lent(data + data[:30])
	second, giveSecond := lent(data[30:])
	l := []api.Chunk{{Conn: 1, Data: first}}
	answers := served(t, s, l...)
	giveFirst()
	if answers[1] != framed(told(ann, 5, 1, "00", here)) {
		t.Errorf("P2: an answer shares memory with what was handed in: %q", answers[1])
	}
	clear(l)
	answers = served(t, s, api.Chunk{Conn: 1, Data: second})
	giveSecond()
	if answers[1] != framed(told(ann, 5, 1, "00", here)) {
		t.Errorf("P2: %q is answered when the rest of a frame has come", answers[1])
	}
	wantAnswer(t, s, ask(ann, 7, 1, here), told(ann, 5, 1, "00", here))
	wantAnswer(t, s, ask(ann, 7, 1, "########"), told(ann, 7, 1, "00", "########"))
	wantLeft(t, s, ann, 488)
	third, giveThird := lent(framed(back("0400", ann, 4, 1, here)))
	served(t, s, api.Chunk{Conn: 1, Data: third})
	giveThird()
	wantAnswer(t, s, back("0400", ann, 3, 1, here), toldBack("0400", ann, 4, 1, "00", here))
	wantAnswer(t, s, back("0400", ann, 3, 1, "########"), toldBack("0400", ann, 3, 1, "00", "########"))
	wantLeft(t, s, ann, 495)
}

func TestWhatIsHandedInIsNotWrittenInto(t *testing.T) {
	cards := append(usual().Cards, api.Card{Pan: "behind"}, api.Card{Pan: "behind"})
	routes := append(usual().Routes, "behind", "behind")
	cardsBefore, routesBefore := slices.Clone(cards), slices.Clone(routes)
	s := made(t, api.Config{Cards: cards[:3], Routes: routes[:3], Shards: 3})
	chunks := []api.Chunk{{Conn: 1, Data: framed(ask(ann, 5, 1, here))[:9]}, {Conn: 2, Data: framed(askTotal(1))}, {Conn: 99, Data: "behind"}}
	chunksBefore := slices.Clone(chunks)
	served(t, s, chunks[:2]...)
	s.Serve(chunks)
	if !slices.Equal(cards, cardsBefore) || !slices.Equal(routes, routesBefore) || !slices.Equal(chunks, chunksBefore) {
		t.Errorf("P2: what was handed in was changed: %v %v %v", cards, routes, chunks)
	}
}

func TestServeGivesNewLists(t *testing.T) {
	s := made(t, usual())
	chunk := api.Chunk{Conn: 1, Data: framed(ask(ann, 5, 1, here))}
	first := served(t, s, chunk)
	second := served(t, s, chunk)
	first = first[:cap(first)]
	for k := range first {
		first[k] = "spoilt"
	}
	if want := []string{"", framed(told(ann, 5, 1, "00", here)), "", "", "", "", "", ""}; !slices.Equal(second, want) {
		t.Errorf("P2: a list that came out was changed through another: %q", second)
	}
	wantServed(t, s, []api.Chunk{chunk}, map[int]string{1: framed(told(ann, 5, 1, "00", here))})
}

func TestReportGivesNewLists(t *testing.T) {
	s := made(t, usual())
	want := []string{"400000******0002 Ann          500", "410000***0013 Bob          1000", "500000**0003 Cat          1000"}
	first := s.Report()
	second := s.Report()
	first = first[:cap(first)]
	for k := range first {
		first[k] = "spoilt"
	}
	if !slices.Equal(second, want) {
		t.Errorf("P2: a list that came out was changed through another: %q", second)
	}
	wantReport(t, s, want...)
}

// TestWorkersHaveEnded: no goroutine goes on behind the answer.
func TestWorkersHaveEnded(t *testing.T) {
	before := runtime.NumGoroutine()
	c := api.Config{Cards: manyCards(api.MaxCards), Routes: []string{"7"}, Shards: api.MaxShards}
	for range 50 {
		s := made(t, c)
		for k, card := range c.Cards {
			served(t, s, api.Chunk{Conn: k % 8, Data: framed(ask(card.Pan, 1, k, here))})
		}
	}
	// One that has told the group that it is done may need a moment to be gone.
	for range 100 {
		if runtime.NumGoroutine() <= before {
			return
		}
		time.Sleep(10 * time.Millisecond)
	}
	t.Errorf("P2: %d goroutines behind all calls, %d ahead of them", runtime.NumGoroutine(), before)
}

// TestOddInputsEndWithoutAPanic hands in what nobody would.
func TestOddInputsEndWithoutAPanic(t *testing.T) {
	odd := []string{"", "\x00", "\xff", strings.Repeat("\x00", 1000), strings.Repeat("\xff", 1000), strings.Repeat("9", 100000), "\x00\x0a\x01\x00", "é\x00"}
	numbers := []int{-1 << 63, -1, 0, 1, 7, 8, 31, 1 << 40, 1<<63 - 1}
	s := made(t, usual())
	for _, text := range odd {
		for _, n := range numbers {
			for _, l := range [][]api.Chunk{nil, {{Conn: n, Data: text}}, {{Data: text}, {Conn: n}}} {
				s.Serve(l)
			}
			s.Closed(n)
			swipe.New(api.Config{Cards: []api.Card{{Pan: text, Limit: n, Name: text}}, Routes: []string{text}, Shards: n})
			swipe.New(api.Config{Cards: []api.Card{{Pan: ann, Limit: n, Name: text}}, Shards: 1})
		}
		s.Left(text)
		s.Report()
	}
	if s.Total() != 0 {
		t.Errorf("P12: Total() = %d, want 0", s.Total())
	}
}

// TestEachByteOfARequestInTurn: a frame with any one byte changed is answered, and by a message of some kind that is an answer.
func TestEachByteOfARequestInTurn(t *testing.T) {
	kinds := []string{bcd("0110"), bcd("0410"), bcd("0430"), bcd("9990")}
	for _, good := range []string{askAs(ann, 5, 1, here, "Zoë"), backAs("0400", ann, 5, 1, here, "Zoë"), back("0420", ann, 5, 1, here)} {
		for at := range good {
			s := made(t, usual())
			served(t, s, api.Chunk{Conn: 0, Data: framed(ask(ann, 50, 1, here))})
			for b := range 256 {
				frame := good[:at] + string([]byte{byte(b)}) + good[at+1:]
				answer := served(t, s, api.Chunk{Conn: 0, Data: framed(frame)})[0]
				if len(answer) < 12 || framed(answer[2:]) != answer || !slices.Contains(kinds, answer[2:4]) {
					t.Errorf("P8: %q is answered %q", frame, answer)
				}
			}
		}
	}
}
