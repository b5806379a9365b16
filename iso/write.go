package iso

import (
	"strconv"
	"strings"

	"swipe/api"
)

// write tells the frame of a message whose kind may have its fields. Of a message that Decode never answers it makes some bytes or other.
func write(m api.Message) string {
	bits := mapOf(m.Fields)
	b := appendDigits(nil, m.Kind)
	b = append(b, bits[:]...)
	for _, field := range m.Fields {
		b = appendField(b, m, field)
	}
	return string(b)
}

func appendField(b []byte, m api.Message, field int) []byte {
	switch field {
	case api.FieldPan:
		return appendDigits(appendNumber(b, len(m.Pan), 1), m.Pan)
	case api.FieldAmount:
		return appendNumber(b, m.Amount, amountBytes)
	case api.FieldTrace:
		return appendNumber(b, m.Trace, traceBytes)
	case api.FieldCode:
		return append(b, m.Code...)
	case api.FieldPlace:
		return append(b, m.Place...)
	case api.FieldName:
		return append(appendNumber(b, len(m.Name), 1), m.Name...)
	case api.FieldMore:
		return appendNumber(b, m.More, amountBytes)
	}
	return b
}

// appendNumber appends a number as the digits of n bytes.
func appendNumber(b []byte, number, n int) []byte {
	digits := strconv.Itoa(number)
	ahead := max(0, 2*n-len(digits))
	return appendDigits(b, strings.Repeat("0", ahead)+digits)
}

// appendDigits appends digits, two in a byte, with a 0 ahead if they are an odd number.
func appendDigits(b []byte, digits string) []byte {
	if len(digits)%2 == 1 {
		digits = "0" + digits
	}
	for i := 0; i < len(digits); i += 2 {
		b = append(b, (digits[i]-'0')<<4|(digits[i+1]-'0'))
	}
	return b
}
