package swipe_test

import (
	"fmt"
	"strings"
	"testing"

	"swipe/api"
)

func TestConnectionsThatThereAreNot(t *testing.T) {
	s := made(t, usual())
	// A frame waits for its last byte, and one connection is closed: both must stay so.
	waiting := framed(ask(ann, 1, 1, here))
	served(t, s, api.Chunk{Conn: 0, Data: waiting[:len(waiting)-1]}, api.Chunk{Conn: 6, Data: "\xff\xff"})
	good := api.Chunk{Conn: 2, Data: framed(ask(ann, 5, 2, here)) + "\x00"}
	breaks := api.Chunk{Conn: 5, Data: "\x00\x00"}
	ends := api.Chunk{Conn: 0, Data: waiting[len(waiting)-1:]}
	for _, conn := range []int{-1, api.MaxConns, -8, 9, 1 << 62, -1 << 63, 1 << 32, 256} {
		bad := api.Chunk{Conn: conn, Data: framed(ask(ann, 7, 3, here))}
		for _, l := range [][]api.Chunk{{bad}, {good, breaks, ends, bad}, {bad, good, breaks, ends}, {good, bad, ends}, {{Conn: conn}}} {
			if answers, e := s.Serve(l); answers != nil || e != api.ErrArg {
				t.Errorf("P7: Serve(%s) = %q, %d, want nil, ErrArg", shown(l), answers, e)
			}
		}
		if is, e := s.Closed(conn); is || e != api.ErrArg {
			t.Errorf("P7: Closed(%d) = %v, %d, want ErrArg", conn, is, e)
		}
	}
	wantClosed(t, s, 6)
	wantLeft(t, s, ann, 500)
	wantTotal(t, s, 0)
	wantServed(t, s, []api.Chunk{ends}, map[int]string{0: framed(told(ann, 1, 1, "00", here))})
	wantServed(t, s, []api.Chunk{good}, map[int]string{2: framed(told(ann, 5, 2, "00", here))})
	wantLeft(t, s, ann, 494)
}

func TestEachConnection(t *testing.T) {
	s := made(t, usual())
	for conn := range api.MaxConns {
		wantServed(t, s, []api.Chunk{{Conn: conn, Data: framed(askEcho(conn))}}, map[int]string{conn: framed(toldEcho(conn))})
	}
}

func TestNothingCame(t *testing.T) {
	s := made(t, usual())
	wantServed(t, s, nil, nil)
	wantServed(t, s, []api.Chunk{}, nil)
	wantServed(t, s, []api.Chunk{{Conn: 0}, {Conn: 7}, {Conn: 0}}, nil)
	wantClosed(t, s)
}

func TestSeveralFramesInAChunk(t *testing.T) {
	s := made(t, usual())
	data := framed(askEcho(1), "x", ask(ann, 2, 2, here), askTotal(3), ask(bob, 3, 4, here), askTotal(5))
	want := framed(toldEcho(1), refused("R1"), told(ann, 2, 2, "00", here), toldTotal(3, 2, 0), told(bob, 3, 4, "00", here), toldTotal(5, 5, 0))
	wantServed(t, s, []api.Chunk{{Conn: 4, Data: data}}, map[int]string{4: want})
}

func TestAFrameCutAnywhere(t *testing.T) {
	data, want := framed(ask(ann, 2, 2, here), askTotal(3)), framed(told(ann, 2, 2, "00", here), toldTotal(3, 2, 0))
	for cut := range len(data) + 1 {
		chunks := []api.Chunk{{Conn: 1, Data: data[:cut]}, {Conn: 1, Data: data[cut:]}}
		s := made(t, usual())
		wantServed(t, s, chunks, map[int]string{1: want})
		s = made(t, usual())
		first, second := served(t, s, chunks[0]), served(t, s, chunks[1])
		if first[1]+second[1] != want {
			t.Errorf("P7: cut at %d, over two calls: %q and %q, want %q together", cut, first[1], second[1], want)
		}
	}
}

func TestFramesByteByByte(t *testing.T) {
	data, want := framed(ask(ann, 2, 2, here), "x", askTotal(3)), framed(told(ann, 2, 2, "00", here), refused("R1"), toldTotal(3, 2, 0))
	var chunks []api.Chunk
	for k := range data {
		chunks = append(chunks, api.Chunk{Conn: 1, Data: data[k : k+1]}, api.Chunk{Conn: 1})
	}
	wantServed(t, made(t, usual()), chunks, map[int]string{1: want})
	s := made(t, usual())
	var got string
	for _, chunk := range chunks {
		got += served(t, s, chunk)[1]
	}
	if got != want {
		t.Errorf("P7: byte by byte, a call each: %q, want %q", got, want)
	}
}

// TestAnAnswerComesWithTheLastByte: not earlier, and not later.
func TestAnAnswerComesWithTheLastByte(t *testing.T) {
	s := made(t, usual())
	data := framed(ask(ann, 2, 2, here))
	wantServed(t, s, []api.Chunk{{Conn: 1, Data: data[:len(data)-1]}}, nil)
	wantLeft(t, s, ann, 500)
	wantServed(t, s, nil, nil)
	wantServed(t, s, []api.Chunk{{Conn: 1}}, nil)
	wantServed(t, s, []api.Chunk{{Conn: 1, Data: data[len(data)-1:]}}, map[int]string{1: framed(told(ann, 2, 2, "00", here))})
	wantLeft(t, s, ann, 498)
	wantServed(t, s, nil, nil)
}

func TestConnectionsInTurns(t *testing.T) {
	var data, want [api.MaxConns]string
	for conn := range data {
		data[conn] = framed(ask(bob, conn+1, conn, here), askEcho(conn))
		want[conn] = framed(told(bob, conn+1, conn, "00", here), toldEcho(conn))
	}
	all := map[int]string{}
	var chunks []api.Chunk
	for k := range data[0] {
		for conn := range data {
			chunks = append(chunks, api.Chunk{Conn: conn, Data: data[conn][k : k+1]})
			all[conn] = want[conn]
		}
	}
	wantServed(t, made(t, usual()), chunks, all)
	s, got := made(t, usual()), map[int]string{}
	for _, chunk := range chunks {
		for conn, text := range served(t, s, chunk) {
			got[conn] += text
		}
	}
	for conn := range data {
		if got[conn] != want[conn] {
			t.Errorf("P7: in turns, a call each: over %d %q, want %q", conn, got[conn], want[conn])
		}
	}
	wantTotal(t, s, 36)
}

func TestTheGreatestFrame(t *testing.T) {
	s := made(t, usual())
	data := framed(strings.Repeat("\x00", api.MaxFrame))
	wantServed(t, s, []api.Chunk{{Conn: 0, Data: data[:201]}}, nil)
	wantServed(t, s, []api.Chunk{{Conn: 0, Data: data[201:]}}, map[int]string{0: framed(refused("R2"))})
	wantServed(t, s, []api.Chunk{{Conn: 0, Data: framed("x")}}, map[int]string{0: framed(refused("R1"))})
	wantClosed(t, s)
}

func TestBrokenConnections(t *testing.T) {
	for _, number := range []int{0, api.MaxFrame + 1, 255, 256, 257, 1 << 15, 1<<16 - 1} {
		s := made(t, usual())
		broken := string([]byte{byte(number >> 8), byte(number)}) + strings.Repeat("x", number)
		data := framed(ask(ann, 1, 1, here), "x") + broken + framed(ask(ann, 1, 2, here))
		wantServed(t, s, []api.Chunk{{Conn: 2, Data: data}, {Conn: 2, Data: framed(ask(ann, 1, 3, here))}, {Conn: 3, Data: framed(ask(ann, 1, 4, here))}},
			map[int]string{2: framed(told(ann, 1, 1, "00", here), refused("R1")), 3: framed(told(ann, 1, 4, "00", here))})
		wantClosed(t, s, 2)
		wantServed(t, s, []api.Chunk{{Conn: 2, Data: framed(ask(ann, 1, 5, here))}, {Conn: 2, Data: "\x00"}, {Conn: 2}}, nil)
		wantClosed(t, s, 2)
		wantLeft(t, s, ann, 498)
		wantTotal(t, s, 2)
	}
}

func TestEveryNumberOfAFrame(t *testing.T) {
	for number := range 1 << 16 {
		s := made(t, api.Config{Shards: 1})
		head := string([]byte{byte(number >> 8), byte(number)})
		served(t, s, api.Chunk{Conn: 7, Data: head})
		if number >= 1 && number <= api.MaxFrame {
			wantClosed(t, s)
		} else {
			wantClosed(t, s, 7)
		}
	}
}

func TestANumberCutInTwo(t *testing.T) {
	for _, first := range []string{"\x00", "\x01", "\xff"} {
		s := made(t, usual())
		wantServed(t, s, []api.Chunk{{Conn: 5, Data: framed(askEcho(1)) + first}}, map[int]string{5: framed(toldEcho(1))})
		wantClosed(t, s)
		wantServed(t, s, []api.Chunk{{Conn: 5, Data: "\x00"}}, nil)
		wantClosed(t, s, 5)
		wantServed(t, s, []api.Chunk{{Conn: 5, Data: framed(askEcho(1))}}, nil)
	}
}

// TestWhatWaitsIsAnsweredAheadOfTheBreak: the end of one frame and a number that may not be come in one chunk.
func TestWhatWaitsIsAnsweredAheadOfTheBreak(t *testing.T) {
	s := made(t, usual())
	data := framed(ask(ann, 1, 1, here))
	served(t, s, api.Chunk{Conn: 0, Data: data[:9]})
	wantServed(t, s, []api.Chunk{{Conn: 0, Data: data[9:] + "\x00\x00"}}, map[int]string{0: framed(told(ann, 1, 1, "00", here))})
	wantClosed(t, s, 0)
}

func TestAllConnectionsBroken(t *testing.T) {
	s := made(t, usual())
	var closed []int
	for conn := range api.MaxConns {
		served(t, s, api.Chunk{Conn: conn, Data: "\x00\x00"})
		closed = append(closed, conn)
		wantClosed(t, s, closed...)
	}
	wantServed(t, s, []api.Chunk{{Conn: 0, Data: framed(askEcho(1))}, {Conn: 7, Data: framed(askEcho(1))}}, nil)
}

func TestFramesThatAreNoMessage(t *testing.T) {
	s := made(t, usual())
	for _, c := range []struct{ frame, want string }{
		{"x", "R1"},
		{"\x00", "R1"},
		{askEcho(1)[:9], "R1"},
		{"\x0a\x00" + bitmap(11) + "\x00\x00\x01", "R1"},
		{bcd("0200") + bitmap(), "R2"},
		{bcd("0000") + bitmap(11) + bcd("000001"), "R2"},
		{bcd("0800") + bitmap(), "R3"},
		{bcd("0500") + bitmap(11, 39) + bcd("000001") + "00", "R3"},
		{bcd("0100") + bitmap(2, 4, 11) + ask(ann, 1, 1, "")[10:], "R3"},
		{askTotal(1) + "x", "R4"},
		{askTotal(1)[:12], "R4"},
		{ask(ann, 1, 1, "TERM000\x7f"), "R4"},
		{ask("40000000000", 1, 1, here), "R4"},
		{ask("40000000000000000000", 1, 1, here), "R4"},
		{askAs(ann, 1, 1, here, "\n"), "R4"},
		{askAs(ann, 1, 1, here, "\xff"), "R4"},
	} {
		wantAnswer(t, s, c.frame, refused(c.want))
	}
	wantClosed(t, s)
	wantLeft(t, s, ann, 500)
	wantTotal(t, s, 0)
}

func TestMessagesThatAreAnswers(t *testing.T) {
	s := made(t, usual())
	for _, frame := range []string{
		told(ann, 1, 1, "00", here), told(nobody, 1, 1, "14", here), told(cat, 1, 1, "15", here),
		about("0410", ann, 1, 1, "00", here), about("0430", ann, 1, 1, "00", here),
		toldTotal(1, 1, 1), toldEcho(1), refused("R1"), refused("R5"), refused("00"),
	} {
		wantAnswer(t, s, frame, refused("R5"))
	}
	wantLeft(t, s, ann, 500)
	wantTotal(t, s, 0)
	// Nor does one stand for the request that it would answer.
	wantAnswer(t, s, ask(ann, 2, 1, here), told(ann, 2, 1, "00", here))
}

func TestEchoes(t *testing.T) {
	s := made(t, usual())
	wantServed(t, s, []api.Chunk{{Conn: 1, Data: "\x00\x0d\x08\x00\x00\x20\x00\x00\x00\x00\x00\x00\x00\x00\x07"}},
		map[int]string{1: "\x00\x0f\x08\x10\x00\x20\x00\x00\x02\x00\x00\x00\x00\x00\x0700"})
	for _, trace := range []int{0, 1, 99, 123456, api.MaxTrace} {
		wantAnswer(t, s, askEcho(trace), toldEcho(trace))
		wantAnswer(t, s, askEcho(trace), toldEcho(trace))
	}
}

func TestTotalsAsTheyAreTold(t *testing.T) {
	const most = api.MaxAmount
	for _, c := range []struct {
		spent        []int
		amount, more int
	}{
		{nil, 0, 0},
		{[]int{1}, 1, 0},
		{[]int{most - 1}, most - 1, 0},
		{[]int{most}, most, 0},
		{[]int{most, 1}, 0, 1},
		{[]int{most, 2}, 1, 1},
		{[]int{most, most}, most - 1, 1},
		{[]int{most, most, 1}, most, 1},
		{[]int{most, most, 2}, 0, 2},
		{[]int{most, most, most, most, most}, most - 4, 4},
	} {
		config := api.Config{Routes: []string{"7"}, Shards: 3, Cards: manyCards(api.MaxCards)}
		for k := range config.Cards {
			config.Cards[k].Limit = most
		}
		s := made(t, config)
		sum := 0
		for k, amount := range c.spent {
			wantAnswer(t, s, ask(config.Cards[k].Pan, amount, 1, here), told(config.Cards[k].Pan, amount, 1, "00", here))
			sum += amount
		}
		for _, trace := range []int{0, 7, api.MaxTrace} {
			wantAnswer(t, s, askTotal(trace), toldTotal(trace, c.amount, c.more))
		}
		wantTotal(t, s, sum)
	}
}

func TestTheGreatestTotal(t *testing.T) {
	config := api.Config{Routes: []string{"7"}, Shards: 8, Cards: manyCards(api.MaxCards)}
	var chunks []api.Chunk
	for k := range config.Cards {
		config.Cards[k].Limit = api.MaxAmount
		chunks = append(chunks, api.Chunk{Conn: k % 8, Data: framed(ask(config.Cards[k].Pan, api.MaxAmount, k, here))})
	}
	s := made(t, config)
	served(t, s, chunks...)
	wantTotal(t, s, 30*api.MaxAmount)
	wantAnswer(t, s, askTotal(1), toldTotal(1, 999999999970, 29))
}

func TestLeftOfCardsThatThereAreNot(t *testing.T) {
	s := made(t, usual())
	for _, pan := range []string{"", "4", nobody, ann + "0", ann[:15], "0" + bob, " " + ann, "\xff", strings.Repeat("4", 10000)} {
		if n, e := s.Left(pan); n != 0 || e != api.ErrCard {
			t.Errorf("P12: Left(%.60q) = %d, %d, want 0, ErrCard", pan, n, e)
		}
	}
	served(t, s, api.Chunk{Data: framed(ask(nobody, 5, 1, here))})
	if n, e := s.Left(nobody); n != 0 || e != api.ErrCard {
		t.Errorf("P12: Left(%q) = %d, %d, want 0, ErrCard", nobody, n, e)
	}
}

func TestManyFrames(t *testing.T) {
	const many = 20000
	s := made(t, usual())
	var data, want strings.Builder
	for k := range many {
		data.WriteString(framed(ask(bob, 1, k, here)))
		code := "00"
		if k >= 1000 {
			code = "51"
		}
		want.WriteString(framed(told(bob, 1, k, code, here)))
	}
	if got := served(t, s, api.Chunk{Conn: 0, Data: data.String()})[0]; got != want.String() {
		t.Errorf("P7: %d frames in a chunk are not answered as they must be", many)
	}
	wantLeft(t, s, bob, 0)
	wantTotal(t, s, 1000)
}

func TestErrorsOfLeftAndClosedChangeNothing(t *testing.T) {
	s := made(t, usual())
	for k := range 20 {
		s.Left(fmt.Sprint(k))
		s.Closed(k + api.MaxConns)
		s.Closed(-k - 1)
	}
	wantClosed(t, s)
	wantLeft(t, s, ann, 500)
	wantTotal(t, s, 0)
}
