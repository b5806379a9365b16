package iso_test

import (
	"fmt"
	"slices"
	"strings"
	"testing"

	"swipe/api"
	"swipe/iso"
)

// The document's kinds and their fields, written out once more, so that the tests lean on nothing of the program.
var kinds = map[string][]int{
	"0100": {2, 4, 11, 41}, "0400": {2, 4, 11, 41}, "0420": {2, 4, 11, 41},
	"0110": {2, 4, 11, 39, 41}, "0410": {2, 4, 11, 39, 41}, "0430": {2, 4, 11, 39, 41},
	"0500": {11}, "0800": {11}, "0510": {4, 11, 39, 54}, "0810": {11, 39}, "9990": {39},
}

// known: every field that a message may have at all.
var known = []int{2, 4, 11, 39, 41, 43, 54}

// fits: may a message of this kind have these fields?
func fits(kind string, fields []int) bool {
	must, ok := kinds[kind]
	if !ok {
		return false
	}
	if slices.Contains([]string{"0100", "0400", "0420"}, kind) && slices.Contains(fields, 43) {
		must = append(slices.Clone(must), 43)
	}
	return slices.Equal(fields, must)
}

// subsets: each choice of the known fields, in rising order.
func subsets() [][]int {
	var all [][]int
	for choice := range 1 << len(known) {
		var fields []int
		for k, field := range known {
			if choice>>k&1 == 1 {
				fields = append(fields, field)
			}
		}
		all = append(all, fields)
	}
	return all
}

// bcd: digits (an even number of them), two in a byte.
func bcd(digits string) string {
	var b strings.Builder
	for i := 0; i < len(digits); i += 2 {
		b.WriteByte((digits[i]-'0')*16 + digits[i+1] - '0')
	}
	return b.String()
}

// bitmap: the eight bytes that say these fields.
func bitmap(fields ...int) string {
	var n uint64
	for _, field := range fields {
		n |= 1 << (64 - field)
	}
	b := make([]byte, 8)
	for i := range b {
		b[i] = byte(n >> (56 - 8*i))
	}
	return string(b)
}

// framed: with the two bytes ahead.
func framed(s string) string { return string([]byte{byte(len(s) / 256), byte(len(s) % 256)}) + s }

// bytesOf: the bytes of a message, of whatever kind and fields.
func bytesOf(m api.Message) string {
	s := bcd(m.Kind) + bitmap(m.Fields...)
	for _, field := range m.Fields {
		s += fieldBytes(m, field)
	}
	return s
}

func fieldBytes(m api.Message, field int) string {
	switch field {
	case 2:
		ahead := strings.Repeat("0", len(m.Pan)%2)
		return bcd(fmt.Sprintf("%02d", len(m.Pan))) + bcd(ahead+m.Pan)
	case 4:
		return bcd(fmt.Sprintf("%012d", m.Amount))
	case 11:
		return bcd(fmt.Sprintf("%06d", m.Trace))
	case 39:
		return m.Code
	case 41:
		return m.Place
	case 43:
		return bcd(fmt.Sprintf("%02d", len(m.Name))) + m.Name
	}
	return bcd(fmt.Sprintf("%012d", m.More))
}

// sample: a message of this kind that has these fields, each with something in it.
func sample(kind string, fields ...int) api.Message {
	m := api.Message{Kind: kind, Fields: slices.Clone(fields)}
	for _, field := range fields {
		switch field {
		case 2:
			m.Pan = "4000000000000002"
		case 4:
			m.Amount = 120345
		case 11:
			m.Trace = 607
		case 39:
			m.Code = "51"
		case 41:
			m.Place = "TERM0001"
		case 43:
			m.Name = "Zoë"
		case 54:
			m.More = 89
		}
	}
	return m
}

// named: a request that has a name.
func named(name string) api.Message {
	m := sample("0100", 2, 4, 11, 41, 43)
	m.Name = name
	return m
}

// alike: are these the same, but for a list without elements being nil or not?
func alike(a, b api.Message) bool {
	return slices.Equal(a.Fields, b.Fields) && withoutFields(a) == withoutFields(b)
}

// withoutFields: the rest of a message, that can be held against another.
func withoutFields(m api.Message) string {
	return fmt.Sprintf("%q %q %d %d %q %q %q %d", m.Kind, m.Pan, m.Amount, m.Trace, m.Code, m.Place, m.Name, m.More)
}

// wantMessage: Decode and Encode lead from one to the other.
func wantMessage(t *testing.T, frame string, want api.Message) {
	t.Helper()
	if m, why := iso.Decode(frame); why != "" || !alike(m, want) {
		t.Errorf("P4: Decode(%q) = %+v, %q, want %+v", frame, m, why, want)
	}
	if s, e := iso.Encode(want); e != api.OK || s != frame {
		t.Errorf("P5: Encode(%+v) = %q, %d, want %q", want, s, e, frame)
	}
}

// wantReason: Decode answers this reason and a message of zeros.
func wantReason(t *testing.T, frame, want string) {
	t.Helper()
	m, why := iso.Decode(frame)
	if why != want {
		t.Errorf("P4: Decode(%q) = %+v, %q, want %q", frame, m, why, want)
	}
	if !alike(m, api.Message{}) {
		t.Errorf("P1, P4: Decode(%q) = %+v with %q, want a message of zeros", frame, m, why)
	}
}

// wantRefused: Encode answers ErrField and the empty text.
func wantRefused(t *testing.T, m api.Message) {
	t.Helper()
	if s, e := iso.Encode(m); s != "" || e != api.ErrField {
		t.Errorf("P5: Encode(%+v) = %q, %d, want ErrField", m, s, e)
	}
}
