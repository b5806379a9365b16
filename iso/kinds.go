package iso

import (
	"slices"

	"swipe/api"
)

// layouts tells each list of fields that a message of a kind may have: none, if there is no such kind.
func layouts(kind string) [][]int {
	switch kind {
	case "0100", "0400", "0420":
		return [][]int{
			{api.FieldPan, api.FieldAmount, api.FieldTrace, api.FieldPlace},
			{api.FieldPan, api.FieldAmount, api.FieldTrace, api.FieldPlace, api.FieldName},
		}
	case "0110", "0410", "0430":
		return [][]int{{api.FieldPan, api.FieldAmount, api.FieldTrace, api.FieldCode, api.FieldPlace}}
	case "0500", "0800":
		return [][]int{{api.FieldTrace}}
	case "0510":
		return [][]int{{api.FieldAmount, api.FieldTrace, api.FieldCode, api.FieldMore}}
	case "0810":
		return [][]int{{api.FieldTrace, api.FieldCode}}
	case "9990":
		return [][]int{{api.FieldCode}}
	}
	return nil
}

// allowed tells whether a message of a kind may have just these fields, in this order.
func allowed(kind string, fields []int) bool {
	for _, layout := range layouts(kind) {
		if slices.Equal(layout, fields) {
			return true
		}
	}
	return false
}

// listed tells the fields that a map says, in rising order.
func listed(bits string) []int {
	var fields []int
	for field := 1; field <= 8*mapBytes; field++ {
		at, bit := bitOf(field)
		if bits[at]&bit != 0 {
			fields = append(fields, field)
		}
	}
	return fields
}

// mapOf tells the map that says these fields, each of which must be 1 to 64.
func mapOf(fields []int) [mapBytes]byte {
	var bits [mapBytes]byte
	for _, field := range fields {
		at, bit := bitOf(field)
		bits[at] |= bit
	}
	return bits
}

// bitOf tells which byte of a map, and which bit of that byte, stands for a field.
func bitOf(field int) (int, byte) {
	return (field - 1) / 8, 0x80 >> ((field - 1) % 8)
}
