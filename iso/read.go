package iso

import (
	"strings"
	"unicode/utf8"

	"swipe/api"
)

const (
	amountBytes = 6
	traceBytes  = 3
	codeBytes   = 2
	placeBytes  = 8
)

// reader takes fields from the front of a text. What is wrong is noted and stays so: whoever reads asks once, at the end.
type reader struct {
	rest  string
	wrong bool
}

// read tells the message of a kind whose fields make up a text, and whether they do, to its end.
func read(kind string, fields []int, text string) (api.Message, bool) {
	m := api.Message{Kind: kind, Fields: fields}
	r := reader{rest: text}
	for _, field := range fields {
		r.field(&m, field)
	}
	return m, !r.wrong && r.rest == ""
}

func (r *reader) field(m *api.Message, field int) {
	switch field {
	case api.FieldPan:
		m.Pan = r.pan()
	case api.FieldAmount:
		m.Amount = r.number(amountBytes)
	case api.FieldTrace:
		m.Trace = r.number(traceBytes)
	case api.FieldCode:
		m.Code = r.plain(codeBytes)
	case api.FieldPlace:
		m.Place = r.plain(placeBytes)
	case api.FieldName:
		m.Name = r.name()
	case api.FieldMore:
		m.More = r.number(amountBytes)
	}
}

func (r *reader) must(ok bool) {
	r.wrong = r.wrong || !ok
}

// take takes n bytes, as a text that shares no memory with the frame.
func (r *reader) take(n int) string {
	if n > len(r.rest) {
		r.must(false)
		return ""
	}
	front := r.rest[:n]
	r.rest = r.rest[n:]
	return strings.Clone(front)
}

// digits takes the digits of n bytes.
func (r *reader) digits(n int) string {
	digits, ok := unpack(r.take(n))
	r.must(ok)
	return digits
}

// number takes the digits of n bytes as a number.
func (r *reader) number(n int) int {
	number := 0
	for _, digit := range r.digits(n) {
		number = 10*number + int(digit-'0')
	}
	return number
}

// count takes the byte that tells how long a field is.
func (r *reader) count(least, most int) int {
	n := r.number(1)
	if n < least || n > most {
		r.must(false)
		return 0
	}
	return n
}

func (r *reader) pan() string {
	n := r.count(api.MinPan, api.MaxPan)
	digits := r.digits((n + 1) / 2)
	if n%2 == 0 {
		return digits
	}
	pan, ok := strings.CutPrefix(digits, "0")
	r.must(ok)
	return pan
}

// plain takes n bytes that can be printed.
func (r *reader) plain(n int) string {
	text := r.take(n)
	for i := range len(text) {
		r.must(text[i] >= 0x20 && text[i] <= 0x7e)
	}
	return text
}

func (r *reader) name() string {
	name := r.take(r.count(0, api.MaxName))
	r.must(utf8.ValidString(name) && !strings.ContainsFunc(name, control))
	return name
}

// control tells whether a rune may not be in a name. (The runes 128 to 159 may: the document names them not.)
func control(c rune) bool { return c < 32 || c == 127 }

// unpack tells the digits that stand in bytes, two in each, and whether each half is a digit.
func unpack(packed string) (string, bool) {
	digits := make([]byte, 0, 2*len(packed))
	for i := range len(packed) {
		upper, lower := packed[i]>>4, packed[i]&0x0f
		if upper > 9 || lower > 9 {
			return "", false
		}
		digits = append(digits, '0'+upper, '0'+lower)
	}
	return string(digits), true
}
