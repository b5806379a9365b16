package iso_test

import (
	"fmt"
	"slices"
	"strings"
	"testing"

	"swipe/api"
	"swipe/iso"
)

func TestExamplesOfTheDocument(t *testing.T) {
	wantMessage(t, "\x08\x00\x00\x20\x00\x00\x00\x00\x00\x00\x00\x00\x07",
		api.Message{Kind: "0800", Fields: []int{11}, Trace: 7})
	wantMessage(t, "\x08\x10\x00\x20\x00\x00\x02\x00\x00\x00\x00\x00\x0700",
		api.Message{Kind: "0810", Fields: []int{11, 39}, Trace: 7, Code: "00"})
	even, odd := sample("0100", 2, 4, 11, 41), sample("0100", 2, 4, 11, 41)
	even.Pan, odd.Pan = "4000000000000002", "4000000000002"
	behind := "\x00\x00\x00\x12\x03\x45\x00\x06\x07TERM0001"
	wantMessage(t, "\x01\x00\x50\x20\x00\x00\x00\x80\x00\x00\x16\x40\x00\x00\x00\x00\x00\x00\x02"+behind, even)
	wantMessage(t, "\x01\x00\x50\x20\x00\x00\x00\x80\x00\x00\x13\x04\x00\x00\x00\x00\x00\x02"+behind, odd)
}

func TestEachKindWithEachChoiceOfFields(t *testing.T) {
	for kind := range kinds {
		for _, fields := range subsets() {
			m := sample(kind, fields...)
			if fits(kind, fields) {
				wantMessage(t, bytesOf(m), m)
			} else {
				wantReason(t, bytesOf(m), "R3")
				wantRefused(t, m)
			}
		}
	}
}

func TestEachBitOfTheMap(t *testing.T) {
	for kind, fields := range kinds {
		good := bytesOf(sample(kind, fields...))
		for field := 1; field <= 64; field++ {
			changed := slices.DeleteFunc(slices.Clone(fields), func(n int) bool { return n == field })
			if len(changed) == len(fields) {
				changed = append(changed, field)
			}
			slices.Sort(changed)
			want := "R3"
			if fits(kind, changed) {
				want = "R4" // its name is not there
			}
			wantReason(t, good[:2]+bitmap(changed...)+good[10:], want)
		}
	}
}

func TestEveryKind(t *testing.T) {
	for high := range 256 {
		for low := range 256 {
			kind := fmt.Sprintf("%02x%02x", high, low)
			want := "R2"
			if strings.ContainsAny(kind, "abcdef") {
				want = "R1"
			} else if _, ok := kinds[kind]; ok {
				want = "R3"
			}
			wantReason(t, string([]byte{byte(high), byte(low)})+bitmap(), want)
		}
	}
}

func TestFramesThatEndTooSoon(t *testing.T) {
	for kind, fields := range kinds {
		good := bytesOf(sample(kind, fields...))
		for end := range good {
			want := "R4"
			if end < 10 {
				want = "R1"
			}
			wantReason(t, good[:end], want)
		}
	}
	good := bytesOf(named("Zoë"))
	for end := 10; end < len(good); end++ {
		wantReason(t, good[:end], "R4")
	}
}

func TestBytesBehindTheLastField(t *testing.T) {
	for kind, fields := range kinds {
		good := bytesOf(sample(kind, fields...))
		for _, behind := range []string{"\x00", " ", good, strings.Repeat("\x00", api.MaxFrame)} {
			wantReason(t, good+behind, "R4")
		}
	}
	wantReason(t, bytesOf(named("Ann"))+"\x00", "R4")
}

func TestTheFirstReasonIsAnswered(t *testing.T) {
	for _, c := range []struct{ what, frame, want string }{
		{"no digits, unknown fields, and bytes behind", "\x0a\x00" + bitmap(1, 64) + "x", "R1"},
		{"nine bytes of no known kind", bcd("7777") + bitmap()[:7], "R1"},
		{"nine bytes, no digits", "\xff\xff" + bitmap()[:7], "R1"},
		{"no known kind, unknown fields, and bytes behind", bcd("7777") + bitmap(1, 64) + "x", "R2"},
		{"no known kind, and fields cut short", bcd("0200") + bitmap(2, 4, 11, 41), "R2"},
		{"a kind's fields are others, and what is there is wrong", bcd("0800") + bitmap(2) + "\xff", "R3"},
		{"a kind's fields are others, and nothing is there", bcd("9990") + bitmap(), "R3"},
		{"right fields, wrong bytes", bcd("0800") + bitmap(11) + "\xff\xff\xff", "R4"},
	} {
		t.Run(c.what, func(t *testing.T) { wantReason(t, c.frame, c.want) })
	}
}

func TestCardNumbers(t *testing.T) {
	for n := range 100 {
		for _, pan := range []string{strings.Repeat("9", n), strings.Repeat("0", n)} {
			m := sample("0400", 2, 4, 11, 41)
			m.Pan = pan
			if n >= 12 && n <= 19 {
				wantMessage(t, bytesOf(m), m)
			} else {
				wantReason(t, bytesOf(m), "R4")
				wantRefused(t, m)
			}
		}
	}
}

func TestTheZeroAheadOfACardNumber(t *testing.T) {
	for _, n := range []int{13, 15, 17, 19} {
		m := sample("0100", 2, 4, 11, 41)
		m.Pan = strings.Repeat("7", n)
		good := bytesOf(m)
		for upper := 1; upper < 16; upper++ {
			wantReason(t, good[:11]+string([]byte{byte(upper<<4 | 7)})+good[12:], "R4")
		}
	}
	m := sample("0100", 2, 4, 11, 41)
	m.Pan = "012345678901" // an even number of digits has no 0 ahead: this one is its own
	wantMessage(t, bytesOf(m), m)
}

// TestHalvesThatAreNoDigit lays each byte in turn at each place where digits must be.
func TestHalvesThatAreNoDigit(t *testing.T) {
	request, totals := bytesOf(sample("0100", 2, 4, 11, 41)), bytesOf(sample("0510", 4, 11, 39, 54))
	places := map[string][][2]int{
		request: {{11, 19}, {19, 25}, {25, 28}},
		totals:  {{10, 16}, {16, 19}, {21, 27}},
	}
	for good, spans := range places {
		for _, span := range spans {
			for at := span[0]; at < span[1]; at++ {
				for b := range 256 {
					want := ""
					if b>>4 > 9 || b&15 > 9 {
						want = "R4"
					}
					frame := good[:at] + string([]byte{byte(b)}) + good[at+1:]
					if _, why := iso.Decode(frame); why != want {
						t.Errorf("P4: Decode(%q) has the reason %q, want %q", frame, why, want)
					}
				}
			}
		}
	}
}

func TestLengthsThatAreNoDigits(t *testing.T) {
	for _, b := range []byte{0x0a, 0x0f, 0x1a, 0x1f, 0xa0, 0xa2, 0xff} {
		request := bytesOf(sample("0100", 2, 4, 11, 41))
		wantReason(t, request[:10]+string([]byte{b})+request[11:], "R4")
		// Enough bytes for any way to read the length.
		head := bytesOf(named(""))
		head = head[:len(head)-1]
		for n := range 100 {
			wantReason(t, head+string([]byte{b})+strings.Repeat("a", n), "R4")
		}
	}
}

func TestCodesAndPlaces(t *testing.T) {
	for b := range 256 {
		c := string([]byte{byte(b)})
		for at := range 8 {
			m := sample("0110", 2, 4, 11, 39, 41)
			m.Place = m.Place[:at] + c + m.Place[at+1:]
			if at < 2 {
				m.Code = m.Code[:at] + c + m.Code[at+1:]
			}
			if b >= 0x20 && b <= 0x7e {
				wantMessage(t, bytesOf(m), m)
			} else {
				wantReason(t, bytesOf(m), "R4")
				wantRefused(t, m)
			}
		}
		code := sample("9990", 39)
		code.Code = "R" + c
		if b >= 0x20 && b <= 0x7e {
			wantMessage(t, bytesOf(code), code)
		} else {
			wantReason(t, bytesOf(code), "R4")
			wantRefused(t, code)
		}
	}
}

func TestAmountsAndTraces(t *testing.T) {
	for _, amount := range []int{0, 1, 9, 10, 99, 100, 123456789012, api.MaxAmount - 1, api.MaxAmount} {
		for _, trace := range []int{0, 1, 12, 123456, api.MaxTrace - 1, api.MaxTrace} {
			m := sample("0510", 4, 11, 39, 54)
			m.Amount, m.Trace, m.More = amount, trace, api.MaxAmount-amount
			wantMessage(t, bytesOf(m), m)
		}
	}
}

func TestNames(t *testing.T) {
	for _, name := range []string{
		"", " ", "a", "Zoë", "日本", "\u0080", "\u009f", "\u007e", "\ufeff", "\ufffd", "\U0010ffff", "\U0001f4b3",
		strings.Repeat("a", 39), strings.Repeat("a", 40), strings.Repeat("é", 20), strings.Repeat("\U0001f4b3", 10),
	} {
		for _, kind := range []string{"0100", "0400", "0420"} {
			m := named(name)
			m.Kind = kind
			wantMessage(t, bytesOf(m), m)
		}
	}
	for _, name := range []string{
		strings.Repeat("a", 41), strings.Repeat("é", 21), strings.Repeat("a", 99),
		"\x7f", "a\x7fb", "\x80", "\xff", "a\xc3", "\xc3", "\xc0\x80", "\xed\xa0\x80", "\xed\xbf\xbf", "\xf4\x90\x80\x80", "\xf0\x82\x82\xac", "\xe2\x82", strings.Repeat("a", 39) + "\xc3",
	} {
		wantReason(t, bytesOf(named(name)), "R4")
		wantRefused(t, named(name))
	}
	for c := range rune(32) {
		wantReason(t, bytesOf(named(string(c))), "R4")
		wantReason(t, bytesOf(named("ab"+string(c))), "R4")
		wantRefused(t, named(string(c)))
	}
}

func TestNamesThatAreNotAsLongAsTheySay(t *testing.T) {
	head := bytesOf(named(""))
	head = head[:len(head)-1]
	wantReason(t, head+"\x03ab", "R4")
	wantReason(t, head+"\x01ab", "R4")
	wantReason(t, head+"\x00a", "R4")
	wantReason(t, head+"\x01é", "R4")
	wantReason(t, head+"\x41"+strings.Repeat("a", 40), "R4")
}

func TestDecodeGivesNewLists(t *testing.T) {
	for kind, fields := range kinds {
		m := sample(kind, fields...)
		frame := bytesOf(m)
		first, _ := iso.Decode(frame)
		second, _ := iso.Decode(frame)
		spoilt := first.Fields[:cap(first.Fields)]
		for i := range spoilt {
			spoilt[i] = 99
		}
		if !slices.Equal(second.Fields, fields) {
			t.Errorf("P2: the fields of %s were changed through another answer: %v", kind, second.Fields)
		}
		wantMessage(t, frame, m)
	}
}
