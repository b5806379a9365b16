package swipe_test

import (
	"fmt"
	"slices"
	"strings"
	"testing"

	"swipe/api"
	"swipe/swipe"
)

// Cards of most of the tests; the last one is on no route, and nobody is not among the cards.
const (
	ann    = "4000000000000002"
	bob    = "4100000000013"
	cat    = "500000000003"
	nobody = "4999999999999999999"
)

const here, there = "TERM0001", "TERM0002"

// usual: the configuration of most of the tests.
func usual() api.Config {
	return api.Config{
		Cards:  []api.Card{{Pan: ann, Limit: 500, Name: "Ann"}, {Pan: bob, Limit: 1000, Name: "Bob"}, {Pan: cat, Limit: 1000, Name: "Cat"}},
		Routes: []string{"40", "9", "4"},
		Shards: 2,
	}
}

// bcd: digits (an even number of them), two in a byte.
func bcd(digits string) string {
	var b strings.Builder
	for i := 0; i < len(digits); i += 2 {
		b.WriteByte((digits[i]-'0')*16 + digits[i+1] - '0')
	}
	return b.String()
}

// bitmap: the eight bytes that say these fields.
func bitmap(fields ...int) string {
	b := make([]byte, 8)
	for _, field := range fields {
		b[(field-1)/8] |= 1 << (7 - (field-1)%8)
	}
	return string(b)
}

// framed: with the two bytes ahead.
func framed(bodies ...string) string {
	var all string
	for _, s := range bodies {
		all += string([]byte{byte(len(s) / 256), byte(len(s) % 256)}) + s
	}
	return all
}

// about: the bytes of a message about a card.
func about(kind, pan string, amount, trace int, code, place string) string {
	fields := bitmap(2, 4, 11, 41)
	if code != "" {
		fields = bitmap(2, 4, 11, 39, 41)
	}
	ahead := strings.Repeat("0", len(pan)%2)
	return bcd(kind) + fields + bcd(fmt.Sprintf("%02d", len(pan))) + bcd(ahead+pan) +
		bcd(fmt.Sprintf("%012d%06d", amount, trace)) + code + place
}

// ask: may this be spent?
func ask(pan string, amount, trace int, place string) string {
	return about("0100", pan, amount, trace, "", place)
}

// askAs: the same, with a name.
func askAs(pan string, amount, trace int, place, name string) string {
	s := ask(pan, amount, trace, place)
	return s[:2] + bitmap(2, 4, 11, 41, 43) + s[10:] + bcd(fmt.Sprintf("%02d", len(name))) + name
}

// told: the answer to ask.
func told(pan string, amount, trace int, code, place string) string {
	return about("0110", pan, amount, trace, code, place)
}

// back: take it back, or it was taken back.
func back(kind, pan string, amount, trace int, place string) string {
	return about(kind, pan, amount, trace, "", place)
}

// backAs: the same, with a name.
func backAs(kind, pan string, amount, trace int, place, name string) string {
	return bcd(kind) + askAs(pan, amount, trace, place, name)[2:]
}

// toldBack: the answer to back.
func toldBack(kind, pan string, amount, trace int, code, place string) string {
	return about(map[string]string{"0400": "0410", "0420": "0430"}[kind], pan, amount, trace, code, place)
}

func askTotal(trace int) string { return bcd("0500") + bitmap(11) + bcd(fmt.Sprintf("%06d", trace)) }

func toldTotal(trace, amount, more int) string {
	return bcd("0510") + bitmap(4, 11, 39, 54) + bcd(fmt.Sprintf("%012d%06d", amount, trace)) + "00" + bcd(fmt.Sprintf("%012d", more))
}

func askEcho(trace int) string { return bcd("0800") + bitmap(11) + bcd(fmt.Sprintf("%06d", trace)) }

func toldEcho(trace int) string {
	return bcd("0810") + bitmap(11, 39) + bcd(fmt.Sprintf("%06d", trace)) + "00"
}

func refused(why string) string { return bcd("9990") + bitmap(39) + why }

// shown: the first chunks, as a test tells of them.
func shown(l []api.Chunk) string {
	var b strings.Builder
	for _, chunk := range l[:min(len(l), 20)] {
		fmt.Fprintf(&b, "%d %.100q; ", chunk.Conn, chunk.Data)
	}
	return b.String()
}

// made: the switch of a configuration that may be.
func made(t *testing.T, c api.Config) *swipe.Switch {
	t.Helper()
	s, e := swipe.New(c)
	if s == nil || e != api.OK {
		t.Fatalf("P6: New(%+v) = %v, %d, want a switch", c, s, e)
	}
	return s
}

// served: what Serve answers, without an error.
func served(t *testing.T, s *swipe.Switch, l ...api.Chunk) []string {
	t.Helper()
	answers, e := s.Serve(l)
	if e != api.OK || len(answers) != api.MaxConns {
		t.Fatalf("P7: Serve(%s) = %.200q, %d, want %d texts", shown(l), answers, e, api.MaxConns)
	}
	return answers
}

// wantServed: these are the answers, by connections; over all others there is none.
func wantServed(t *testing.T, s *swipe.Switch, l []api.Chunk, want map[int]string) {
	t.Helper()
	for conn, text := range served(t, s, l...) {
		if text != want[conn] {
			t.Errorf("P7: Serve(%s) answers %.200q over the connection %d, want %.200q", shown(l), text, conn, want[conn])
		}
	}
}

// wantAnswer: over one connection this frame is answered so.
func wantAnswer(t *testing.T, s *swipe.Switch, frame, want string) {
	t.Helper()
	wantServed(t, s, []api.Chunk{{Conn: 3, Data: framed(frame)}}, map[int]string{3: framed(want)})
}

// wantLeft: so much is left of a card.
func wantLeft(t *testing.T, s *swipe.Switch, pan string, want int) {
	t.Helper()
	if n, e := s.Left(pan); n != want || e != api.OK {
		t.Errorf("P12: Left(%q) = %d, %d, want %d", pan, n, e, want)
	}
}

// wantTotal: so much was spent, as Total and the answer to 0500 tell it.
func wantTotal(t *testing.T, s *swipe.Switch, want int) {
	t.Helper()
	if n := s.Total(); n != want {
		t.Errorf("P12: Total() = %d, want %d", n, want)
	}
	wantAnswer(t, s, askTotal(9), toldTotal(9, want%1000000000000, want/1000000000000))
}

// wantReport: this is told of the cards.
func wantReport(t *testing.T, s *swipe.Switch, want ...string) {
	t.Helper()
	if got := s.Report(); !slices.Equal(got, want) {
		t.Errorf("P12: Report() = %q, want %q", got, want)
	}
}

// wantClosed: just these connections are closed.
func wantClosed(t *testing.T, s *swipe.Switch, closed ...int) {
	t.Helper()
	for conn := range api.MaxConns {
		if is, e := s.Closed(conn); is != slices.Contains(closed, conn) || e != api.OK {
			t.Errorf("P7: Closed(%d) = %v, %d, want closed: %v", conn, is, e, closed)
		}
	}
}
