package swipe_test

import (
	"fmt"
	"math/rand"
	"slices"
	"strings"
	"testing"

	"swipe/api"
)

// event: a frame over a connection, and its answer as the book below tells it.
type event struct {
	conn        int
	frame, want string
}

// book: one worker alone, who answers request by request.
type book struct {
	left   map[string]int
	routes []string
	total  int
	said   map[string]string // what is answered again, by kinds, cards, traces and places
	open   map[string]int    // what may be taken back, by cards, traces and places
}

func newBook(c api.Config) *book {
	b := &book{left: map[string]int{}, routes: c.Routes, said: map[string]string{}, open: map[string]int{}}
	for _, card := range c.Cards {
		b.left[card.Pan] = card.Limit
	}
	return b
}

// stray: the code that says that nothing is known of a number, if so it is.
func (b *book) stray(pan string) string {
	if !slices.ContainsFunc(b.routes, func(route string) bool { return strings.HasPrefix(pan, route) }) {
		return "15"
	}
	if _, ok := b.left[pan]; !ok {
		return "14"
	}
	return ""
}

func (b *book) spend(pan string, amount, trace int, place string) string {
	answer := func(code string) string { return told(pan, amount, trace, code, place) }
	if code := b.stray(pan); code != "" {
		return answer(code)
	}
	key := fmt.Sprintf("%s %d %s", pan, trace, place)
	if b.said["0100"+key] == "" {
		switch {
		case amount == 0:
			b.said["0100"+key] = answer("13")
		case amount > b.left[pan]:
			b.said["0100"+key] = answer("51")
		default:
			b.said["0100"+key] = answer("00")
			b.left[pan] -= amount
			b.total += amount
			b.open[key] = amount
		}
	}
	return b.said["0100"+key]
}

func (b *book) back(kind, pan string, amount, trace int, place string) string {
	answer := func(code string) string { return toldBack(kind, pan, amount, trace, code, place) }
	if code := b.stray(pan); code != "" {
		return answer(code)
	}
	key := fmt.Sprintf("%s %d %s", pan, trace, place)
	if before := b.said[kind+key]; before != "" {
		return before
	}
	spent, ok := b.open[key]
	switch {
	case !ok:
		return answer("25")
	case amount == 0 || amount > spent:
		b.said[kind+key] = answer("13")
	default:
		b.said[kind+key] = answer("00")
		b.left[pan] += amount
		b.total -= amount
		delete(b.open, key)
	}
	return b.said[kind+key]
}

// drawn: some frame, and its answer.
func (b *book) drawn(r *rand.Rand, pans []string) (string, string) {
	trace := r.Intn(3)
	switch r.Intn(16) {
	case 0:
		return askEcho(trace), toldEcho(trace)
	case 1, 2, 3:
		return askTotal(trace), toldTotal(trace, b.total%1000000000000, b.total/1000000000000)
	case 4:
		return string(make([]byte, 1+r.Intn(9))), refused("R1")
	case 5:
		return toldEcho(trace), refused("R5")
	}
	return b.drawnOfACard(r, pans[r.Intn(len(pans))], trace)
}

// drawnOfACard: some request of a card, and its answer.
func (b *book) drawnOfACard(r *rand.Rand, pan string, trace int) (string, string) {
	amount, place := r.Intn(200), []string{here, there}[r.Intn(2)]
	if r.Intn(5) == 0 {
		amount = 0
	}
	named := r.Intn(4) == 0
	if kind := []string{"0100", "0400", "0420"}[r.Intn(3)]; kind != "0100" {
		amount /= 2 // what was spent is seldom much
		frame := back(kind, pan, amount, trace, place)
		if named {
			frame = backAs(kind, pan, amount, trace, place, "Zoë")
		}
		return frame, b.back(kind, pan, amount, trace, place)
	}
	frame := ask(pan, amount, trace, place)
	if named {
		frame = askAs(pan, amount, trace, place, "Zoë")
	}
	return frame, b.spend(pan, amount, trace, place)
}

// report: what is told of the cards.
func (b *book) report(cards []api.Card) []string {
	sorted := slices.SortedFunc(slices.Values(cards), func(x, y api.Card) int { return strings.Compare(x.Pan, y.Pan) })
	var report []string
	for _, card := range sorted {
		n := len(card.Pan)
		name := append([]rune(card.Name), []rune("            ")...)[:12]
		report = append(report, fmt.Sprintf("%s%s%s %s %d", card.Pan[:6], strings.Repeat("*", n-10), card.Pan[n-4:], string(name), b.left[card.Pan]))
	}
	return report
}

// manyWith: a configuration of some cards, and numbers of which some are not among them, or on no route.
func manyWith(r *rand.Rand, shards int) (api.Config, []string) {
	c := api.Config{Routes: []string{"41", "7", "41"}, Shards: shards}
	var pans []string
	// Few cards rather than many: their requests meet more often.
	for k := range 1 + r.Intn(1+r.Intn(api.MaxCards)) {
		pan := fmt.Sprintf("7%0*d", 11+k%8, 3*k)
		c.Cards = append(c.Cards, api.Card{Pan: pan, Limit: 100 * r.Intn(9), Name: strings.Repeat("Zoë", k%7)})
		pans = append(pans, pan)
	}
	if len(c.Cards) < api.MaxCards {
		c.Cards = append(c.Cards, api.Card{Pan: cat, Limit: 100})
	}
	return c, append(pans, cat, "710000000000", "4111111111111")
}

// cutUp cuts events into chunks: the last byte of each frame comes in the order of the events, and whatever can be ahead of it may be.
func cutUp(r *rand.Rand, events []event) []api.Chunk {
	var streams [api.MaxConns]string
	var coming [api.MaxConns][]int // how long the frames are that are not whole yet
	for _, e := range events {
		streams[e.conn] += framed(e.frame)
		coming[e.conn] = append(coming[e.conn], len(framed(e.frame)))
	}
	var sent, whole [api.MaxConns]int
	var chunks []api.Chunk
	send := func(conn, end int) {
		for sent[conn] < end {
			n := end - sent[conn]
			if r.Intn(3) == 0 {
				n = 1 + r.Intn(n)
			}
			chunks = append(chunks, api.Chunk{Conn: conn, Data: streams[conn][sent[conn] : sent[conn]+n]})
			sent[conn] += n
		}
	}
	for _, e := range events {
		whole[e.conn] += coming[e.conn][0]
		coming[e.conn] = coming[e.conn][1:]
		send(e.conn, whole[e.conn])
		if early := r.Intn(api.MaxConns); len(coming[early]) > 0 {
			send(early, whole[early]+r.Intn(coming[early][0]))
		}
	}
	return chunks
}

// joined: chunks of one connection that follow on one another, as one, here and there.
func joined(r *rand.Rand, chunks []api.Chunk) []api.Chunk {
	var l []api.Chunk
	for _, chunk := range chunks {
		last := len(l) - 1
		if last >= 0 && l[last].Conn == chunk.Conn && r.Intn(2) == 0 {
			l[last].Data += chunk.Data
		} else {
			l = append(l, chunk)
		}
	}
	return l
}

// TestAsOneWorkerAlone: whatever the number of workers, the cuts and the calls, the answers are those of the book.
func TestAsOneWorkerAlone(t *testing.T) {
	for seed := range int64(60) {
		r := rand.New(rand.NewSource(seed))
		c, pans := manyWith(r, 1)
		b := newBook(c)
		var events []event
		want := map[int]string{}
		for range r.Intn(600) {
			e := event{conn: r.Intn(1 + r.Intn(api.MaxConns))}
			e.frame, e.want = b.drawn(r, pans)
			events = append(events, e)
			want[e.conn] += framed(e.want)
		}
		for shards := 1; shards <= api.MaxShards; shards++ {
			c.Shards = shards
			s := made(t, c)
			got := map[int]string{}
			for l := joined(r, cutUp(r, events)); len(l) > 0; {
				n := 1 + r.Intn(len(l))
				for conn, text := range served(t, s, l[:n]...) {
					got[conn] += text
				}
				l = l[n:]
			}
			for conn := range api.MaxConns {
				if got[conn] != want[conn] {
					t.Fatalf("P11: seed %d, %d shards: over the connection %d %q, want %q", seed, shards, conn, got[conn], want[conn])
				}
			}
			for pan, left := range b.left {
				wantLeft(t, s, pan, left)
			}
			wantTotal(t, s, b.total)
			wantReport(t, s, b.report(c.Cards)...)
		}
	}
}

// TestTotalsBetweenCards: each total has just what was spent ahead of it, whichever worker it was that spent.
func TestTotalsBetweenCards(t *testing.T) {
	for shards := 1; shards <= api.MaxShards; shards++ {
		c := api.Config{Cards: manyCards(api.MaxCards), Routes: []string{"7"}, Shards: shards}
		var chunks []api.Chunk
		want, total := map[int]string{}, 0
		for k := range 400 {
			card := k * 7 % api.MaxCards
			c.Cards[card].Limit = 1000
			chunks = append(chunks,
				api.Chunk{Conn: k % 3, Data: framed(ask(c.Cards[card].Pan, k+1, k, here))},
				api.Chunk{Conn: k % 5, Data: framed(askTotal(k))})
		}
		b := newBook(c)
		for k := range 400 {
			want[k%3] += framed(b.spend(c.Cards[k*7%api.MaxCards].Pan, k+1, k, here))
			total = b.total
			want[k%5] += framed(toldTotal(k, total, 0))
		}
		s := made(t, c)
		wantServed(t, s, chunks, want)
		wantTotal(t, s, total)
	}
}

// TestTheOrderOfTheChunksCounts: the frame that is whole first spends first, not the one that began first or has the lower connection.
func TestTheOrderOfTheChunksCounts(t *testing.T) {
	for shards := 1; shards <= api.MaxShards; shards++ {
		c := usual()
		c.Shards = shards
		s := made(t, c)
		first, second := framed(ask(ann, 300, 1, here)), framed(ask(ann, 400, 2, here))
		wantServed(t, s, []api.Chunk{{Conn: 0, Data: first[:20]}, {Conn: 7, Data: second}, {Conn: 0, Data: first[20:]}, {Conn: 7, Data: framed(askTotal(1))}},
			map[int]string{0: framed(told(ann, 300, 1, "51", here)), 7: framed(told(ann, 400, 2, "00", here), toldTotal(1, 400, 0))})
		wantLeft(t, s, ann, 100)
	}
}
