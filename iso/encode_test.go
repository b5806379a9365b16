package iso_test

import (
	"math"
	"math/rand/v2"
	"slices"
	"strings"
	"sync"
	"testing"

	"swipe/api"
	"swipe/iso"
)

func TestEncodeRefusesKinds(t *testing.T) {
	for _, kind := range []string{"", "0", "010", "01000", "0101", "0200", "9999", "x100", "010x", " 100", "-100", "\x01\x00", strings.Repeat("0100", 1000)} {
		m := sample("0100", 2, 4, 11, 41)
		m.Kind = kind
		wantRefused(t, m)
	}
}

func TestEncodeRefusesFields(t *testing.T) {
	for _, fields := range [][]int{
		nil, {}, {0}, {65}, {-1}, {math.MinInt}, {math.MaxInt},
		{2, 4, 11}, {2, 4, 11, 41, 41}, {2, 2, 4, 11, 41}, {4, 2, 11, 41}, {41, 11, 4, 2},
		{2, 4, 11, 43, 41}, {2, 4, 11, 41, 43, 43}, {2, 4, 11, 41, 64}, {2, 4, 11, 41, 65}, {2, 4, 11, 41, math.MinInt},
		{2 + 64, 4, 11, 41}, {2, 4, 11, 41, 0}, slices.Repeat([]int{2}, 10000),
	} {
		m := sample("0100", 2, 4, 11, 41)
		m.Fields = fields
		wantRefused(t, m)
	}
}

func TestEncodeRefusesNumbers(t *testing.T) {
	for _, n := range []int{-1, -9, -10, -api.MaxAmount, math.MinInt, math.MaxInt, api.MaxAmount + 1, 10 * (api.MaxAmount + 1)} {
		m := sample("0510", 4, 11, 39, 54)
		m.Amount = n
		wantRefused(t, m)
		m = sample("0510", 4, 11, 39, 54)
		m.More = n
		wantRefused(t, m)
	}
	for _, n := range []int{-1, -api.MaxTrace, math.MinInt, math.MaxInt, api.MaxTrace + 1, 10 * (api.MaxTrace + 1), api.MaxAmount} {
		m := sample("0800", 11)
		m.Trace = n
		wantRefused(t, m)
	}
}

func TestEncodeRefusesTexts(t *testing.T) {
	for _, pan := range []string{"", "40000000000", "40000000000000000000", "40000000000x", "4000000000 1", "-40000000000", "400000000000:", "40000000000/", "４０００", "\x00\x00\x00\x00\x00\x00\x00\x00\x00\x00\x00\x00", strings.Repeat("4", 112), strings.Repeat("4", 1<<16)} {
		m := sample("0430", 2, 4, 11, 39, 41)
		m.Pan = pan
		wantRefused(t, m)
	}
	for _, code := range []string{"", "0", "000", "0\x7f", "\x1f0", "é", strings.Repeat("0", 1000)} {
		m := sample("0810", 11, 39)
		m.Code = code
		wantRefused(t, m)
	}
	for _, place := range []string{"", "TERM000", "TERM00011", "TERM000\x7f", "TERM000\x00", "TERMé01", strings.Repeat("T", 1000)} {
		m := sample("0400", 2, 4, 11, 41)
		m.Place = place
		wantRefused(t, m)
	}
	for _, n := range []int{41, 99, 100, 101, 140, 1 << 16} {
		wantRefused(t, named(strings.Repeat("a", n)))
	}
}

// TestEncodeRefusesWhatLeaksIntoAnotherField: the bytes, one behind the other, are those of another message.
func TestEncodeRefusesWhatLeaksIntoAnotherField(t *testing.T) {
	m := sample("0110", 2, 4, 11, 39, 41)
	m.Code, m.Place = "5", "1TERM0001"
	wantRefused(t, m)
	m.Code, m.Place = "51T", "ERM0001"
	wantRefused(t, m)
	m = named("ab")
	m.Place, m.Name = "TERM0001\x01", "a"
	wantRefused(t, m)
}

func TestEncodeRefusesWhatTheMessageDoesNotHave(t *testing.T) {
	full := sample("", known...)
	for kind, fields := range kinds {
		for _, field := range known {
			if slices.Contains(fields, field) {
				continue
			}
			m := sample(kind, fields...)
			switch field {
			case 2:
				m.Pan = full.Pan
			case 4:
				m.Amount = full.Amount
			case 39:
				m.Code = full.Code
			case 11:
				m.Trace = full.Trace
			case 41:
				m.Place = full.Place
			case 43:
				m.Name = full.Name
			case 54:
				m.More = full.More
			}
			wantRefused(t, m)
		}
	}
	wantRefused(t, api.Message{})
}

func TestEncodeDoesNotWriteIntoItsFields(t *testing.T) {
	room := []int{2, 4, 11, 41, 77, 78}
	m := sample("0100", 2, 4, 11, 41)
	m.Fields = room[:4]
	wantMessage(t, bytesOf(m), m)
	m.Fields = room[:5]
	wantRefused(t, m)
	if !slices.Equal(room, []int{2, 4, 11, 41, 77, 78}) {
		t.Errorf("P2: Encode wrote into the list that it was handed: %v", room)
	}
}

// noise: bytes without sense, but often with a kind, a map and digits as they must be.
func noise(r *rand.Rand) string {
	b := make([]byte, r.IntN(100))
	for i := range b {
		b[i] = byte(r.IntN(256))
		if r.IntN(4) > 0 {
			b[i] = byte(r.IntN(10)<<4 | r.IntN(10))
		}
	}
	if r.IntN(4) == 0 {
		return string(b)
	}
	all := []string{"0100", "0110", "0400", "0410", "0420", "0430", "0500", "0510", "0800", "0810", "9990"}
	kind := all[r.IntN(len(all))]
	good := bytesOf(sample(kind, kinds[kind]...))
	if kind == "0420" {
		good = bytesOf(named("Zoë"))
	}
	spoilt := []byte(good + string(b[:min(len(b), r.IntN(3))]))
	for range r.IntN(3) {
		spoilt[r.IntN(len(spoilt))] = byte(r.IntN(256))
	}
	return string(spoilt[:len(spoilt)-r.IntN(2)])
}

// TestNoise holds for whatever bytes: the calls end, and what they answer fits together.
func TestNoise(t *testing.T) {
	r := rand.New(rand.NewPCG(1, 2))
	for range 20000 {
		text := noise(r)
		m, why := iso.Decode(text)
		if !slices.Contains([]string{"", "R1", "R2", "R3", "R4"}, why) {
			t.Errorf("P4: Decode(%q) has the reason %q", text, why)
		}
		if why != "" {
			wantReason(t, text, why)
			wantRefused(t, m)
		} else {
			wantMessage(t, text, m)
		}
		frames, rest, _ := iso.Cut(framed("a") + text)
		var whole string
		for _, frame := range frames {
			whole += framed(frame)
		}
		if whole+rest != framed("a")+text {
			t.Errorf("P3: Cut(%q) lost bytes: %q, %q", text, frames, rest)
		}
	}
}

// TestCallsBesideOneAnother: nothing is kept from call to call, so calls may run beside one another.
func TestCallsBesideOneAnother(t *testing.T) {
	var wait sync.WaitGroup
	for kind, fields := range kinds {
		wait.Go(func() {
			m := sample(kind, fields...)
			for trace := range 200 {
				if slices.Contains(fields, 11) {
					m.Trace = trace
				}
				frame := bytesOf(m)
				wantMessage(t, frame, m)
				wantCut(t, framed(frame)+"\x00", []string{frame}, "\x00", false)
			}
		})
	}
	wait.Wait()
}
